/- Geo; Ya; Wt; Yb; Yc; Yd: texts laid into one. -/
import Derived.Test.YtgeoffpcmkofkaaQac
import Derived.Deep.RegionHeld3
import Derived.Deep.DrawnRows
/- Points, sides and segments over whole numbers: what two segments have in common, told twice, is the same. -/
namespace Go.Proofs.Ytgeoffpcmkofkaa
open Fl

abbrev Pt := Int × Int
/-- The determinant of three points. -/
def D (a b c : Pt) : Int := det a.1 a.2 b.1 b.2 c.1 c.2
def CdP (p : Pt) : Prop := Cd p.1 ∧ Cd p.2
/-- The place in the order by X, then Y. -/
def K (p : Pt) : Int := p.1 * 36028797018963968 + p.2
def btw (a b c : Int) : Prop := a ≤ c ∧ c ≤ b ∨ b ≤ c ∧ c ≤ a
def onP (a b p : Pt) : Prop := btw a.1 b.1 p.1 ∧ btw a.2 b.2 p.2 ∧ D a b p = 0

theorem sgn_cases (x : Int) : (x < 0 ∧ sgn x = -1) ∨ (x = 0 ∧ sgn x = 0) ∨ (0 < x ∧ sgn x = 1) := by
  unfold sgn
  rcases Int.lt_trichotomy x 0 with h | h | h
  · exact Or.inl ⟨h, by rw [if_pos h]⟩
  · exact Or.inr (Or.inl ⟨h, by rw [if_neg (by omega), if_pos h]⟩)
  · exact Or.inr (Or.inr ⟨h, by rw [if_neg (by omega), if_neg (by omega)]⟩)
theorem sgn_zero {x : Int} : sgn x = 0 ↔ x = 0 := by rcases sgn_cases x with h | h | h <;> omega
theorem sgn_pos {x : Int} : 0 < sgn x ↔ 0 < x := by rcases sgn_cases x with h | h | h <;> omega
theorem sgn_neg' {x : Int} : sgn x < 0 ↔ x < 0 := by rcases sgn_cases x with h | h | h <;> omega
theorem sgn_mul_pos {x y : Int} : 0 < sgn x * sgn y ↔ (0 < x ∧ 0 < y) ∨ (x < 0 ∧ y < 0) := by
  rcases sgn_cases x with ⟨h, e⟩ | ⟨h, e⟩ | ⟨h, e⟩ <;> rcases sgn_cases y with ⟨k, f⟩ | ⟨k, f⟩ | ⟨k, f⟩ <;> rw [e, f] <;> omega
theorem sgn_mul_neg {x y : Int} : sgn x * sgn y < 0 ↔ (0 < x ∧ y < 0) ∨ (x < 0 ∧ 0 < y) := by
  rcases sgn_cases x with ⟨h, e⟩ | ⟨h, e⟩ | ⟨h, e⟩ <;> rcases sgn_cases y with ⟨k, f⟩ | ⟨k, f⟩ | ⟨k, f⟩ <;> rw [e, f] <;> omega

theorem pt_ext {p q : Pt} (h1 : p.1 = q.1) (h2 : p.2 = q.2) : p = q := Prod.ext h1 h2
theorem K_inj {p q : Pt} (hp : CdP p) (hq : CdP q) (h : K p = K q) : p = q := by
  obtain ⟨⟨a, b⟩, c, d⟩ := hp
  obtain ⟨⟨a', b'⟩, c', d'⟩ := hq
  unfold K at h
  exact pt_ext (by omega) (by omega)
theorem K_le {p q : Pt} (hp : CdP p) (hq : CdP q) : K p ≤ K q ↔ p.1 < q.1 ∨ p.1 = q.1 ∧ p.2 ≤ q.2 := by
  obtain ⟨⟨a, b⟩, c, d⟩ := hp
  obtain ⟨⟨a', b'⟩, c', d'⟩ := hq
  unfold K
  omega

theorem mul_eq_zero' {x y : Int} (h : x * y = 0) (hx : x ≠ 0) : y = 0 := by
  rcases Int.mul_eq_zero.1 h with h | h
  · exact absurd h hx
  · exact h

/-- Three points in the line of two others lie in a line. -/
theorem line3 {a b x y z : Pt} (hab : a ≠ b) (hx : D a b x = 0) (hy : D a b y = 0) (hz : D a b z = 0) : D x y z = 0 := by
  unfold D det at *
  by_cases h1 : b.1 - a.1 = 0
  · have h2 : b.2 - a.2 ≠ 0 := fun h2 => hab (pt_ext (by omega) (by omega))
    apply mul_eq_zero' (x := b.2 - a.2) _ h2
    grind
  · apply mul_eq_zero' (x := b.1 - a.1) _ h1
    grind

/-- A point between two others. -/
def Mix (a b p : Pt) : Prop := ∃ l m : Int, 0 ≤ l ∧ 0 ≤ m ∧ 0 < l + m ∧ (l + m) * p.1 = l * a.1 + m * b.1 ∧ (l + m) * p.2 = l * a.2 + m * b.2

theorem Mix.lin {a b p : Pt} (h : Mix a b p) : ∃ l m : Int, 0 ≤ l ∧ 0 ≤ m ∧ 0 < l + m ∧ ∀ c d : Pt, (l + m) * D c d p = l * D c d a + m * D c d b := by
  obtain ⟨l, m, hl, hm, hs, e1, e2⟩ := h
  refine ⟨l, m, hl, hm, hs, fun c d => ?_⟩
  unfold D det
  grind

theorem Mix.btw1 {l m a b p : Int} (hl : 0 ≤ l) (hm : 0 ≤ m) (hs : 0 < l + m) (e : (l + m) * p = l * a + m * b) : btw a b p := by
  unfold btw
  rcases Int.le_total a b with h | h
  · left
    constructor
    · have : 0 ≤ (l + m) * (p - a) := by
        have e2 : (l + m) * (p - a) = m * (b - a) := by grind
        rw [e2]; exact Int.mul_nonneg hm (by omega)
      have := Int.nonneg_of_mul_nonneg_right this hs
      omega
    · have : 0 ≤ (l + m) * (b - p) := by
        have e2 : (l + m) * (b - p) = l * (b - a) := by grind
        rw [e2]; exact Int.mul_nonneg hl (by omega)
      have := Int.nonneg_of_mul_nonneg_right this hs
      omega
  · right
    constructor
    · have : 0 ≤ (l + m) * (p - b) := by
        have e2 : (l + m) * (p - b) = l * (a - b) := by grind
        rw [e2]; exact Int.mul_nonneg hl (by omega)
      have := Int.nonneg_of_mul_nonneg_right this hs
      omega
    · have : 0 ≤ (l + m) * (a - p) := by
        have e2 : (l + m) * (a - p) = m * (a - b) := by grind
        rw [e2]; exact Int.mul_nonneg hm (by omega)
      have := Int.nonneg_of_mul_nonneg_right this hs
      omega

theorem D_left (a b : Pt) : D a b a = 0 := by unfold D det; grind
theorem D_right (a b : Pt) : D a b b = 0 := by unfold D det; grind
theorem D_same (a p : Pt) : D a a p = 0 := by unfold D det; grind
theorem D_rot (a b c : Pt) : D b c a = D a b c := by unfold D det; grind
theorem D_swap (a b c : Pt) : D b a c = -D a b c := by unfold D det; grind

theorem Mix.on {a b p : Pt} (h : Mix a b p) : onP a b p := by
  have h' := h
  obtain ⟨l, m, hl, hm, hs, e1, e2⟩ := h
  refine ⟨btw1 hl hm hs e1, btw1 hl hm hs e2, ?_⟩
  unfold D det
  apply mul_eq_zero' (x := l + m) _ (by omega)
  grind

theorem onP.mix {a b p : Pt} (h : onP a b p) : Mix a b p := by
  obtain ⟨h1, h2, h3⟩ := h
  unfold D det at h3
  unfold btw at h1 h2
  by_cases e1 : a.1 = b.1
  · by_cases e2 : a.2 = b.2
    · exact ⟨1, 0, by omega, by omega, by omega, by omega, by omega⟩
    · have hp : p.1 = a.1 := by omega
      rcases Int.le_total a.2 b.2 with h | h
      · exact ⟨b.2 - p.2, p.2 - a.2, by omega, by omega, by omega, by rw [hp, ← e1]; grind, by grind⟩
      · exact ⟨p.2 - b.2, a.2 - p.2, by omega, by omega, by omega, by rw [hp, ← e1]; grind, by grind⟩
  · rcases Int.le_total a.1 b.1 with h | h
    · exact ⟨b.1 - p.1, p.1 - a.1, by omega, by omega, by omega, by grind, by grind⟩
    · exact ⟨p.1 - b.1, a.1 - p.1, by omega, by omega, by omega, by grind, by grind⟩

/-- On a segment: as the order tells it. -/
theorem holds_iff {a b p : Pt} (ha : CdP a) (hb : CdP b) (hp : CdP p) : onP a b p ↔ (K a ≤ K p ∧ K p ≤ K b ∨ K b ≤ K p ∧ K p ≤ K a) ∧ D a b p = 0 := by
  rw [K_le ha hp, K_le hp hb, K_le hb hp, K_le hp ha]
  constructor
  · rintro h
    refine ⟨?_, h.2.2⟩
    by_cases e1 : a.1 = b.1
    · have h1 := h.1
      have h2 := h.2.1
      unfold btw at h1 h2
      omega
    · obtain ⟨h1, h2, h3⟩ := h
      unfold D det at h3
      have k1 : p.1 = a.1 → p.2 = a.2 := by
        intro e
        have : (b.1 - a.1) * (p.2 - a.2) = 0 := by rw [e] at h3; grind
        have := mul_eq_zero' this (by omega)
        omega
      have k2 : p.1 = b.1 → p.2 = b.2 := by
        intro e
        have : (b.1 - a.1) * (p.2 - b.2) = 0 := by rw [e] at h3; grind
        have := mul_eq_zero' this (by omega)
        omega
      unfold btw at h1
      omega
  · rintro ⟨h, h3⟩
    by_cases e1 : a.1 = b.1
    · unfold onP btw
      refine ⟨by omega, by omega, h3⟩
    · apply Mix.on
      unfold D det at h3
      rcases Int.le_total a.1 b.1 with h' | h'
      · exact ⟨b.1 - p.1, p.1 - a.1, by omega, by omega, by omega, by grind, by grind⟩
      · exact ⟨p.1 - b.1, a.1 - p.1, by omega, by omega, by omega, by grind, by grind⟩

/-- Two points on the same side: nothing between them lies in the line. -/
theorem apart {a b c d p : Pt} (h : (0 < D a b c ∧ 0 < D a b d) ∨ (D a b c < 0 ∧ D a b d < 0)) (h1 : D a b p = 0) (h2 : onP c d p) : False := by
  obtain ⟨l, m, hl, hm, hs, e⟩ := h2.mix.lin
  have e := e a b
  rw [h1, Int.mul_zero] at e
  rcases h with ⟨p, q⟩ | ⟨p, q⟩
  · rcases (show 0 < l ∨ 0 < m by omega) with k | k
    · have := Int.mul_pos k p; have := Int.mul_nonneg hm (Int.le_of_lt q); omega
    · have := Int.mul_pos k q; have := Int.mul_nonneg hl (Int.le_of_lt p); omega
  · have e' : 0 = l * (- D a b c) + m * (- D a b d) := by grind
    rcases (show 0 < l ∨ 0 < m by omega) with k | k
    · have := Int.mul_pos k (show 0 < - D a b c by omega); have := Int.mul_nonneg hm (show 0 ≤ -D a b d by omega); omega
    · have := Int.mul_pos k (show 0 < - D a b d by omega); have := Int.mul_nonneg hl (show 0 ≤ -D a b c by omega); omega

/-- An end in the other's line, whose ends lie on both sides of it. -/
theorem touch {a b c d : Pt} (h0 : D a b c = 0) (hd : D a b d ≠ 0) (h1 : ¬(0 < D c d a ∧ 0 < D c d b)) (h2 : ¬(D c d a < 0 ∧ D c d b < 0)) : onP a b c := by
  have hne : ¬(D c d a = 0 ∧ D c d b = 0) := by
    rintro ⟨p, q⟩
    by_cases hcd : c = d
    · subst hcd; exact hd h0
    · exact hd (line3 hcd p q (D_right c d))
  apply Mix.on
  have i1 : (D c d a - D c d b) * c.1 = D c d a * b.1 - D c d b * a.1 := by unfold D det at *; grind
  have i2 : (D c d a - D c d b) * c.2 = D c d a * b.2 - D c d b * a.2 := by unfold D det at *; grind
  rcases (show (0 ≤ D c d a ∧ D c d b ≤ 0) ∨ (D c d a ≤ 0 ∧ 0 ≤ D c d b) by omega) with ⟨p, q⟩ | ⟨p, q⟩
  · exact ⟨-D c d b, D c d a, by omega, by omega, by omega, by grind, by grind⟩
  · exact ⟨D c d b, -D c d a, by omega, by omega, by omega, by grind, by grind⟩

instance (a b c : Int) : Decidable (btw a b c) := by unfold btw; infer_instance
instance (a b p : Pt) : Decidable (onP a b p) := by unfold onP; infer_instance
def onB (a b p : Pt) : Bool := decide (onP a b p)

/-- One more point that both segments have. -/
def bothStep (a b c d : Pt) (l : List Pt) (p : Pt) : List Pt := if (onB a b p && onB c d p) && l.all (fun q => !decide (q = p)) then l ++ [p] else l
def both (a b c d : Pt) : List Pt := [a, b, c, d].foldl (bothStep a b c d) []

def meetRef (a b c d : Pt) : Int :=
  if 1 < (both a b c d).length then 3
  else if (both a b c d).length = 1 then 2
  else if sgn (D a b c) * sgn (D a b d) < 0 ∧ sgn (D c d a) * sgn (D c d b) < 0 then 1 else 0

def lineN (a b c d : Pt) : Int :=
  if max (min (K a) (K b)) (min (K c) (K d)) < min (max (K a) (K b)) (max (K c) (K d)) then 3
  else if max (min (K a) (K b)) (min (K c) (K d)) = min (max (K a) (K b)) (max (K c) (K d)) then 2 else 0

def meetN (a b c d : Pt) : Int :=
  if D a b c = 0 ∧ D a b d = 0 ∧ D c d a = 0 ∧ D c d b = 0 then lineN a b c d
  else if 0 < sgn (D a b c) * sgn (D a b d) ∨ 0 < sgn (D c d a) * sgn (D c d b) then 0
  else if sgn (D a b c) * sgn (D a b d) < 0 ∧ sgn (D c d a) * sgn (D c d b) < 0 then 1 else 2

/-- All that lie on both. -/
def OnBoth (a b c d p : Pt) : Prop := onP a b p ∧ onP c d p

theorem bothStep_inv {a b c d : Pt} {l m : List Pt} {p : Pt} (h : ∀ q, q ∈ l ↔ q ∈ m ∧ OnBoth a b c d q) (hn : l.Nodup) :
    (∀ q, q ∈ bothStep a b c d l p ↔ q ∈ m ++ [p] ∧ OnBoth a b c d q) ∧ (bothStep a b c d l p).Nodup := by
  unfold bothStep
  by_cases h1 : onP a b p ∧ onP c d p
  · by_cases h2 : p ∈ l
    · have : l.all (fun q => !decide (q = p)) = false := by
        rw [Bool.eq_false_iff]; intro hh
        have := List.all_eq_true.1 hh p h2
        simp at this
      rw [this]
      simp only [Bool.and_false]
      refine ⟨fun q => ?_, hn⟩
      rw [if_neg (by simp)]
      rw [h, List.mem_append, List.mem_singleton]
      constructor
      · rintro ⟨x, y⟩; exact ⟨Or.inl x, y⟩
      · rintro ⟨x | x, y⟩
        · exact ⟨x, y⟩
        · subst x; exact ⟨((h _).1 h2).1, y⟩
    · have : l.all (fun q => !decide (q = p)) = true := by
        rw [List.all_eq_true]; intro q hq
        simp
        rintro rfl; exact h2 hq
      rw [this]
      have e1 : onB a b p = true := by simp [onB, h1.1]
      have e2 : onB c d p = true := by simp [onB, h1.2]
      simp only [e1, e2, Bool.and_true, if_true]
      refine ⟨fun q => ?_, ?_⟩
      · rw [List.mem_append, List.mem_append, List.mem_singleton, h]
        constructor
        · rintro (⟨x, y⟩ | x)
          · exact ⟨Or.inl x, y⟩
          · subst x; exact ⟨Or.inr rfl, h1⟩
        · rintro ⟨x | x, y⟩
          · exact Or.inl ⟨x, y⟩
          · exact Or.inr x
      · rw [List.nodup_append]
        refine ⟨hn, by simp, ?_⟩
        intro q hq r hr e
        simp at hr
        subst hr e
        exact h2 hq
  · have : (onB a b p && onB c d p) = false := by
      unfold onB
      rw [Bool.and_eq_false_iff, decide_eq_false_iff_not, decide_eq_false_iff_not]
      rcases Classical.em (onP a b p) with x | x
      · exact Or.inr fun y => h1 ⟨x, y⟩
      · exact Or.inl x
    rw [this, Bool.false_and, if_neg (by simp)]
    refine ⟨fun q => ?_, hn⟩
    rw [h, List.mem_append, List.mem_singleton]
    constructor
    · rintro ⟨x, y⟩; exact ⟨Or.inl x, y⟩
    · rintro ⟨x | x, y⟩
      · exact ⟨x, y⟩
      · subst x; exact absurd y h1

theorem both_inv (a b c d : Pt) : (∀ q, q ∈ both a b c d ↔ q ∈ [a, b, c, d] ∧ OnBoth a b c d q) ∧ (both a b c d).Nodup := by
  have h0 : ∀ q, q ∈ ([] : List Pt) ↔ q ∈ ([] : List Pt) ∧ OnBoth a b c d q := by simp
  have h1 := bothStep_inv (p := a) h0 (by simp)
  have h2 := bothStep_inv (p := b) h1.1 h1.2
  have h3 := bothStep_inv (p := c) h2.1 h2.2
  have h4 := bothStep_inv (p := d) h3.1 h3.2
  exact h4

theorem len_two {l : List Pt} {p q : Pt} (hp : p ∈ l) (hq : q ∈ l) (h : p ≠ q) : 1 < l.length := by
  match l, hp, hq with
  | [x], hp, hq => simp at hp hq; exact absurd (hp.trans hq.symm) h
  | x :: y :: l, _, _ => simp
theorem len_one {l : List Pt} {p : Pt} (hn : l.Nodup) (hp : p ∈ l) (h : ∀ q, q ∈ l → q = p) : l.length = 1 := by
  match l, hn, hp, h with
  | [x], _, _, _ => rfl
  | x :: y :: l, hn, _, h =>
    have e1 := h x (by simp)
    have e2 := h y (by simp)
    subst e1 e2
    simp at hn
theorem len_none {l : List Pt} (h : ∀ q, q ∉ l) : l.length = 0 := by
  match l, h with
  | [], _ => rfl
  | x :: l, h => exact absurd (by simp) (h x)

theorem meet_same {a b c d : Pt} (ha : CdP a) (hb : CdP b) (hc : CdP c) (hd : CdP d) : meetN a b c d = meetRef a b c d := by
  obtain ⟨hm, hn⟩ := both_inv a b c d
  unfold meetN meetRef
  by_cases hz : D a b c = 0 ∧ D a b d = 0 ∧ D c d a = 0 ∧ D c d b = 0
  · rw [if_pos hz]
    obtain ⟨z1, z2, z3, z4⟩ := hz
    have hall : ∀ q ∈ [a, b, c, d], CdP q ∧ D a b q = 0 ∧ D c d q = 0 := by
      intro q hq
      simp at hq
      rcases hq with rfl | rfl | rfl | rfl
      · exact ⟨ha, D_left _ _, z3⟩
      · exact ⟨hb, D_right _ _, z4⟩
      · exact ⟨hc, z1, D_left _ _⟩
      · exact ⟨hd, z2, D_right _ _⟩
    have hk : ∀ q, q ∈ both a b c d ↔ q ∈ [a, b, c, d] ∧ max (min (K a) (K b)) (min (K c) (K d)) ≤ K q ∧ K q ≤ min (max (K a) (K b)) (max (K c) (K d)) := by
      intro q
      rw [hm]
      constructor
      · rintro ⟨x, y1, y2⟩
        refine ⟨x, ?_⟩
        have h1 := ((holds_iff ha hb (hall q x).1).1 y1).1
        have h2 := ((holds_iff hc hd (hall q x).1).1 y2).1
        omega
      · rintro ⟨x, y⟩
        refine ⟨x, (holds_iff ha hb (hall q x).1).2 ⟨by omega, (hall q x).2.1⟩, (holds_iff hc hd (hall q x).1).2 ⟨by omega, (hall q x).2.2⟩⟩
    have e1 : ∃ p ∈ [a, b, c, d], K p = max (min (K a) (K b)) (min (K c) (K d)) := by
      rcases (show K a = max (min (K a) (K b)) (min (K c) (K d)) ∨ K b = max (min (K a) (K b)) (min (K c) (K d)) ∨ K c = max (min (K a) (K b)) (min (K c) (K d)) ∨ K d = max (min (K a) (K b)) (min (K c) (K d)) by omega) with h | h | h | h
      · exact ⟨a, by simp, h⟩
      · exact ⟨b, by simp, h⟩
      · exact ⟨c, by simp, h⟩
      · exact ⟨d, by simp, h⟩
    have e2 : ∃ p ∈ [a, b, c, d], K p = min (max (K a) (K b)) (max (K c) (K d)) := by
      rcases (show K a = min (max (K a) (K b)) (max (K c) (K d)) ∨ K b = min (max (K a) (K b)) (max (K c) (K d)) ∨ K c = min (max (K a) (K b)) (max (K c) (K d)) ∨ K d = min (max (K a) (K b)) (max (K c) (K d)) by omega) with h | h | h | h
      · exact ⟨a, by simp, h⟩
      · exact ⟨b, by simp, h⟩
      · exact ⟨c, by simp, h⟩
      · exact ⟨d, by simp, h⟩
    obtain ⟨p, p1, p2⟩ := e1
    obtain ⟨q, q1, q2⟩ := e2
    unfold lineN
    generalize max (min (K a) (K b)) (min (K c) (K d)) = F at *
    generalize min (max (K a) (K b)) (max (K c) (K d)) = L at *
    rcases Int.lt_trichotomy F L with h | h | h
    · rw [if_pos h, if_pos (len_two ((hk p).2 ⟨p1, by omega⟩) ((hk q).2 ⟨q1, by omega⟩) (by rintro rfl; omega))]
    · have : (both a b c d).length = 1 := len_one hn ((hk p).2 ⟨p1, by omega⟩) (fun r hr => by
        have := (hk r).1 hr
        exact K_inj (hall r this.1).1 (hall p p1).1 (by omega))
      rw [if_neg (by omega), if_pos h, if_neg (by omega), if_pos this]
    · have : (both a b c d).length = 0 := len_none (fun r hr => by have := (hk r).1 hr; omega)
      rw [if_neg (by omega), if_neg (by omega), if_neg (by omega), if_neg (by omega), if_neg ?_]
      rw [z1, z2]
      simp [sgn]
  · rw [if_neg hz]
    have h2 : ∀ p q, p ∈ both a b c d → q ∈ both a b c d → p = q := by
      intro p q hp hq
      have hp := ((hm p).1 hp).2
      have hq := ((hm q).1 hq).2
      apply Classical.byContradiction
      intro hne
      have same : ∀ x y : Pt, onP x y p → onP x y q → x ≠ y := by
        rintro x y h1 h2 rfl
        have a1 := h1.1; have a2 := h1.2.1; have b1 := h2.1; have b2 := h2.2.1
        unfold btw at a1 a2 b1 b2
        exact hne (pt_ext (by omega) (by omega))
      have n1 := same a b hp.1 hq.1
      have n2 := same c d hp.2 hq.2
      have la := line3 n1 hp.1.2.2 hq.1.2.2 (D_left a b)
      have lb := line3 n1 hp.1.2.2 hq.1.2.2 (D_right a b)
      have lc := line3 n2 hp.2.2.2 hq.2.2.2 (D_left c d)
      have ld := line3 n2 hp.2.2.2 hq.2.2.2 (D_right c d)
      exact hz ⟨line3 hne la lb lc, line3 hne la lb ld, line3 hne lc ld la, line3 hne lc ld lb⟩
    by_cases g1 : 0 < sgn (D a b c) * sgn (D a b d) ∨ 0 < sgn (D c d a) * sgn (D c d b)
    · rw [if_pos g1]
      have : (both a b c d).length = 0 := len_none (fun r hr => by
        have hr := ((hm r).1 hr).2
        rcases g1 with g | g
        · exact apart (sgn_mul_pos.1 g) hr.1.2.2 hr.2
        · exact apart (sgn_mul_pos.1 g) hr.2.2.2 hr.1)
      rw [if_neg (by omega), if_neg (by omega), if_neg ?_]
      omega
    · rw [if_neg g1]
      by_cases g2 : sgn (D a b c) * sgn (D a b d) < 0 ∧ sgn (D c d a) * sgn (D c d b) < 0
      · rw [if_pos g2]
        have g3 := sgn_mul_neg.1 g2.1
        have g4 := sgn_mul_neg.1 g2.2
        have : (both a b c d).length = 0 := len_none (fun r hr => by
          obtain ⟨hr0, hr⟩ := (hm r).1 hr
          have d1 := hr.1.2.2
          have d2 := hr.2.2.2
          simp at hr0
          rcases hr0 with rfl | rfl | rfl | rfl <;> omega)
        rw [if_neg (by omega), if_neg (by omega), if_pos g2]
      · rw [if_neg g2]
        have g3 : ¬(0 < sgn (D a b c) * sgn (D a b d)) := fun h => g1 (Or.inl h)
        have g4 : ¬(0 < sgn (D c d a) * sgn (D c d b)) := fun h => g1 (Or.inr h)
        rw [sgn_mul_pos] at g3 g4
        rw [sgn_mul_neg, sgn_mul_neg] at g2
        have ex : ∃ p, p ∈ both a b c d := by
          have sw : ∀ x y z : Pt, D x y z = 0 → D y x z = 0 := fun x y z h => by rw [D_swap, h]; rfl
          have hA : onP a b a := ⟨by unfold btw; omega, by unfold btw; omega, D_left _ _⟩
          have hB : onP a b b := ⟨by unfold btw; omega, by unfold btw; omega, D_right _ _⟩
          have hC : onP c d c := ⟨by unfold btw; omega, by unfold btw; omega, D_left _ _⟩
          have hD : onP c d d := ⟨by unfold btw; omega, by unfold btw; omega, D_right _ _⟩
          have key : ∀ a b c d : Pt, ¬(D a b c = 0 ∧ D a b d = 0 ∧ D c d a = 0 ∧ D c d b = 0) → ¬(0 < D c d a ∧ 0 < D c d b ∨ D c d a < 0 ∧ D c d b < 0) → D a b c = 0 → onP a b c := by
            intro a b c d hz hg h0
            apply touch (d := d) h0 _ (fun h => hg (Or.inl h)) (fun h => hg (Or.inr h))
            intro h1
            by_cases hab : a = b
            · subst hab
              apply hz
              refine ⟨h0, h1, ?_, ?_⟩ <;> omega
            · exact hz ⟨h0, h1, line3 hab h0 h1 (D_left a b), line3 hab h0 h1 (D_right a b)⟩
          rcases (show D a b c = 0 ∨ D a b d = 0 ∨ D c d a = 0 ∨ D c d b = 0 by omega) with h | h | h | h
          · exact ⟨c, (hm c).2 ⟨by simp, key a b c d hz g4 h, hC⟩⟩
          · refine ⟨d, (hm d).2 ⟨by simp, key a b d c ?_ ?_ h, hD⟩⟩
            · rw [D_swap c d a, D_swap c d b]; omega
            · rw [D_swap c d a, D_swap c d b]; omega
          · exact ⟨a, (hm a).2 ⟨by simp, hA, key c d a b (by omega) g3 h⟩⟩
          · refine ⟨b, (hm b).2 ⟨by simp, hB, key c d b a ?_ ?_ h⟩⟩
            · rw [D_swap a b c, D_swap a b d]; omega
            · rw [D_swap a b c, D_swap a b d]; omega
        obtain ⟨p, hp⟩ := ex
        have : (both a b c d).length = 1 := len_one hn hp (fun q hq => h2 q p hq hp)
        rw [if_neg (by omega), if_pos this]

end Go.Proofs.Ytgeoffpcmkofkaa
/- The walks of package order, with 'Compare' and 'Or' of package cmp. -/
namespace Go.Proofs.Ytgeoffpcmkofkaa
open Go.RowKit Fl
set_option maxRecDepth 100000
attribute [local go_sem ↓] Go.wp_at_zero Go.wp_at_succ

set_option maxHeartbeats 400000 in
theorem isNaN_any (x : Int) (w : World) : Calls Try.prog 106 #[.int .i64 x] w fun e w' => e = .returned (.bool false) ∧ w = w' := by
  go_enter Try.func106, Try.ntmps106
  go_wp2_with fail
  go_ret
  exact ⟨rfl, rfl⟩

set_option maxHeartbeats 800000 in
theorem cmpInt_any (x y : Int) (w : World) : Calls Try.prog 99 #[.int .i64 x, .int .i64 y] w fun e w' => e = .returned (.int .i64 (sgn (x - y))) ∧ w = w' := by
  have HS : Hid ((x < y ∧ sgn (x - y) = -1) ∨ (x = y ∧ sgn (x - y) = 0) ∨ (y < x ∧ sgn (x - y) = 1)) := by
    rcases sgn_cases (x - y) with h | h | h
    · exact Or.inl ⟨by omega, h.2⟩
    · exact Or.inr (Or.inl ⟨by omega, h.2⟩)
    · exact Or.inr (Or.inr ⟨by omega, h.2⟩)
  go_enter Try.func99, Try.ntmps99
  go_wp2_with fail
  refine (isNaN_any x _).mono ?_
  rintro e w1 ⟨rfl, rfl⟩
  go_wp2_with fail
  refine (isNaN_any y _).mono ?_
  rintro e w1 ⟨rfl, rfl⟩
  rcases HS.out with ⟨h, e⟩ | ⟨h, e⟩ | ⟨h, e⟩
  · have HE : Hid (sgn (x - y) = -1) := e
    clear HS e
    go_wp2_with fail
    go_ret
    exact ⟨by rw [HE.out]; rfl, rfl⟩
  · have HE : Hid (sgn (x - y) = 0) := e
    clear HS e
    have h1 : x ≤ y := by omega
    have h2 : y ≤ x := by omega
    clear h
    go_wp2_with fail
    go_ret
    exact ⟨by rw [HE.out]; rfl, rfl⟩
  · have HE : Hid (sgn (x - y) = 1) := e
    clear HS e
    go_wp2_with fail
    go_ret
    exact ⟨by rw [HE.out]; rfl, rfl⟩

def orI (s t : Int) : Int := if s = 0 then t else s

set_option maxHeartbeats 800000 in
theorem or2 (s t : Int) (g : Nat) (V : World) (c0 : V.cell? ⟨g, 0, none⟩ = some (.int .i64 s)) (c1 : V.cell? ⟨g, 1, none⟩ = some (.int .i64 t)) :
    Calls Try.prog 98 #[.slice (some ⟨g, 0, none⟩) 2 2] V fun e w' => e = .returned (.int .i64 (orI s t)) ∧ V = w' := by
  have HS : Hid ((s = 0 → orI s t = t) ∧ (s ≠ 0 → orI s t = s)) := ⟨fun h => by rw [orI, if_pos h], fun h => by rw [orI, if_neg h]⟩
  go_enter Try.func98, Try.ntmps98
  go_wp2_with fail
  go_loop [8] (fun i => ∃ k : Nat, i = .int .i64 k ∧ k ≤ 2 ∧ Hid ((1 ≤ k → s = 0) ∧ (2 ≤ k → t = 0)))
    (fun i => 2 - (intOf i).toNat)
  case atStart => exact ⟨0, rfl, Nat.zero_le _, fun h => by omega, fun h => by omega⟩
  case round =>
    obtain ⟨k, rfl, hle, H⟩ := hrel
    rcases (show k = 0 ∨ k = 1 ∨ k = 2 by omega) with rfl | rfl | rfl
    · by_cases hs : s = 0
      · have HS0 : Hid (s = 0) := hs
        go_wp2_with fail
        go_round
        case rel => exact ⟨1, rfl, by omega, fun _ => HS0.out, fun h => by omega⟩
        case measure => simp [intOf]
      · have HE : Hid (orI s t = s) := HS.out.2 hs
        go_wp2_with fail
        go_ret
        exact ⟨by rw [HE.out]; rfl, rfl⟩
    · by_cases hs : t = 0
      · have HS0 : Hid (t = 0) := hs
        go_wp2_with fail
        go_round
        case rel => exact ⟨2, rfl, by omega, fun _ => H.out.1 (by omega), fun _ => HS0.out⟩
        case measure => simp [intOf]
      · have HE : Hid (orI s t = t) := HS.out.1 (H.out.1 (by omega))
        go_wp2_with fail
        go_ret
        exact ⟨by rw [HE.out]; rfl, rfl⟩
    · have HE : Hid (orI s t = 0) := by rw [Hid, HS.out.1 (H.out.1 (by omega)), H.out.2 (by omega)]
      go_wp2_with fail
      go_ret
      exact ⟨by rw [HE.out]; rfl, rfl⟩

/-- The order of points. -/
def cmpP (a b : Pt) : Int := orI (sgn (a.1 - b.1)) (sgn (a.2 - b.2))
theorem cmpP_eq {a b : Pt} (ha : CdP a) (hb : CdP b) : cmpP a b = sgn (K a - K b) := by
  obtain ⟨⟨p, q⟩, r, t⟩ := ha
  obtain ⟨⟨p', q'⟩, r', t'⟩ := hb
  unfold cmpP orI
  rcases sgn_cases (a.1 - b.1) with ⟨h, e⟩ | ⟨h, e⟩ | ⟨h, e⟩
  · rw [e, if_neg (by omega)]
    rcases sgn_cases (K a - K b) with ⟨h', e'⟩ | ⟨h', e'⟩ | ⟨h', e'⟩ <;> unfold K at h' <;> omega
  · rw [e, if_pos rfl]
    congr 1
    unfold K
    omega
  · rw [e, if_neg (by omega)]
    rcases sgn_cases (K a - K b) with ⟨h', e'⟩ | ⟨h', e'⟩ | ⟨h', e'⟩ <;> unfold K at h' <;> omega

set_option maxHeartbeats 800000 in
theorem compare_any (ax ay bx by' : Int) (w : World) :
    Calls Try.prog 85 #[.agg #[.int .i64 ax, .int .i64 ay], .agg #[.int .i64 bx, .int .i64 by']] w fun e w' => e = .returned (.int .i64 (cmpP (ax, ay) (bx, by'))) ∧ Hid (New w w') := by
  go_enter Try.func85, Try.ntmps85
  go_wp2_with fail
  obtain ⟨W, hW⟩ : ∃ W, W = (w.alloc (.cells #[.int .i64 ax, .int .i64 ay] 23)).alloc (.cells #[.int .i64 bx, .int .i64 by'] 23) := ⟨_, rfl⟩
  have HW : Hid (New w W ∧ W.heap.size = w.heap.size + 2) := by rw [hW]; exact ⟨(New.alloc _ _).alloc' _, by simp⟩
  have a0 : W.cell? ⟨w.heap.size, 0, none⟩ = some (.int .i64 ax) := by rw [hW]; go_simp
  have a1 : W.cell? ⟨w.heap.size, 1, none⟩ = some (.int .i64 ay) := by rw [hW]; go_simp
  have b0 : W.cell? ⟨w.heap.size + 1, 0, none⟩ = some (.int .i64 bx) := by rw [hW]; go_simp
  have b1 : W.cell? ⟨w.heap.size + 1, 1, none⟩ = some (.int .i64 by') := by rw [hW]; go_simp
  rw [← hW]
  clear hW
  have F1 : Hid (0 ≤ 0) := Nat.le_refl _
  go_region_held3 (fun w' => w'.cell? ⟨w.heap.size, 0, none⟩ = some (.int .i64 ax) ∧ w'.cell? ⟨w.heap.size, 1, none⟩ = some (.int .i64 ay) ∧ w'.cell? ⟨w.heap.size + 1, 0, none⟩ = some (.int .i64 bx) ∧ w'.cell? ⟨w.heap.size + 1, 1, none⟩ = some (.int .i64 by'))
    (first
      | go_keep)
    (first
      | (go_at_call 99; clear F1; refine (cmpInt_any ax bx _).mono ?_; rintro e w1 ⟨rfl, rfl⟩)
      | (go_at_call 99; refine (cmpInt_any ay by' _).mono ?_; rintro e w1 ⟨rfl, rfl⟩)
      | (go_at_call 98; refine (or2 (sgn (ax - bx)) (sgn (ay - by')) W.heap.size _ (by go_simp) (by go_simp)).mono ?_; rintro e w1 ⟨rfl, rfl⟩))
  go_wp2_with fail
  go_ret
  exact ⟨rfl, (HW.out.1.alloc' _).drewN 1⟩

end Go.Proofs.Ytgeoffpcmkofkaa
/- The walks of package side: 'newRoughRow', 'roughTerm'. -/
namespace Go.Proofs.Ytgeoffpcmkofkaa
open Go.RowKit Fl
set_option maxRecDepth 100000

/-- A row of the determinant, rounded. -/
structure RRow (X Y : Int) (x y s : Nat × Int) : Prop where
  dx : Df X x
  dy : Df Y y
  ws : F s.1 s.2 0
  err : E (X * X + Y * Y) s.2 s.2 521
  nn : 0 ≤ s.2
  small : (s.2.natAbs : Int) ≤ 2 ^ 111

theorem sq_nonneg (x : Int) : 0 ≤ x * x := by
  rcases Int.le_total 0 x with h | h
  · exact Int.mul_nonneg h h
  · have := Int.mul_nonneg (show 0 ≤ -x by omega) (show 0 ≤ -x by omega)
    have e : -x * -x = x * x := by grind
    omega

theorem rrow_words {X Y : Int} {x y : Nat × Int} (h1 : Df X x) (h2 : Df Y y) :
    ∃ (a b : Nat) (s : Nat × Int), Ieee.double.mul x.1 x.1 = some a ∧ Ieee.double.mul y.1 y.1 = some b ∧ Ieee.double.add a b = some s.1 ∧ RRow X Y x y s := by
  have b1 := mul_le_p2 h1.p2 h1.p2
  have b2 := mul_le_p2 h2.p2 h2.p2
  obtain ⟨a, za, e1, q1, f1⟩ := h1.word.mul h1.word (by omega) (small_Big b1 (by omega))
  obtain ⟨b, zb, e2, q2, f2⟩ := h2.word.mul h2.word (by omega) (small_Big b2 (by omega))
  have c1 := rnd_p2 q1 b1
  have c2 := rnd_p2 q2 b2
  have b3 := add_le_p2 c1 c2
  obtain ⟨s, zs, e3, q3, f3⟩ := f1.add f2 (by omega) (small_Big b3 (by omega))
  have na : 0 ≤ za := q1.ge Rep.zero (sq_nonneg _)
  have nb : 0 ≤ zb := q2.ge Rep.zero (sq_nonneg _)
  have ns : 0 ≤ zs := q3.ge Rep.zero (by omega)
  have E1 : E (X * X) za za.natAbs 391 := (((E.rnd h1.rnd).mul (E.rnd h1.rnd) (by omega) (by omega) (by omega) (by omega)).round q1 (by rw [Int.natAbs_mul, Int.natCast_mul]) (by omega) (by omega)).mono (by omega)
  have E2 : E (Y * Y) zb zb.natAbs 391 := (((E.rnd h2.rnd).mul (E.rnd h2.rnd) (by omega) (by omega) (by omega) (by omega)).round q2 (by rw [Int.natAbs_mul, Int.natCast_mul]) (by omega) (by omega)).mono (by omega)
  have E3 := (E1.add E2).round q3 (by omega) (by omega) (by omega)
  have e4 : ((zs.natAbs : Int)) = zs := by omega
  rw [e4] at E3
  exact ⟨a, b, (s, zs), e1, e2, e3, h1, h2, f3, E3.mono (by omega), ns, rnd_p2 q3 b3⟩

theorem New.below' {w w' : World} (h : New w w') : Below w.heap.size w w' := ⟨h.os, h.tape, h.output, h.size, fun k hk => h.block k hk (by simp)⟩
theorem Below.new' {w w' : World} (h : Below w.heap.size w w') : New w w' := ⟨h.os, h.tape, h.output, h.size, fun k hk _ => h.block k hk⟩
theorem New.frule' {W w1 : World} (h : New W w1) : ∀ b o, b < W.heap.size → w1.frozen? ⟨b, o, none⟩ = W.frozen? ⟨b, o, none⟩ :=
  fun b o hb => World.frozen?_of_block (a := ⟨b, o, none⟩) (h.block b hb (by simp))

theorem store_float (a : Addr) (b : Nat) (w : World) : (store a (.float .f64 b)).run Try.prog w = stored Try.prog w a (.float .f64 b) .plain := run_store Try.prog w a _ _ rfl

set_option maxHeartbeats 400000 in
theorem newRoughRow_any (px py dx dy : Int) (w : World) (h1 : Cd px) (h2 : Cd py) (h3 : Cd dx) (h4 : Cd dy) :
    Calls Try.prog 79 #[.agg #[.int .i64 px, .int .i64 py], .agg #[.int .i64 dx, .int .i64 dy]] w fun e w' =>
      ∃ x y s : Nat × Int, e = .returned (.agg #[.float .f64 x.1, .float .f64 y.1, .float .f64 s.1]) ∧ Hid (New w w' ∧ RRow (px - dx) (py - dy) x y s) := by
  go_enter Try.func79, Try.ntmps79
  go_wp2_with fail
  refine (roughApart_any px py dx dy _ h1 h2 h3 h4).mono ?_
  rintro e w1 ⟨x, y, rfl, H1⟩
  obtain ⟨a, b, s, e1, e2, e3, hr⟩ := rrow_words H1.out.2.1 H1.out.2.2
  have HR : Hid (New (((w.alloc (.cells #[.int .i64 px, .int .i64 py] 23)).alloc (.cells #[.int .i64 dx, .int .i64 dy] 23)).alloc (.cells #[.float .f64 0, .float .f64 0, .float .f64 0] 93)) w1 ∧ RRow (px - dx) (py - dy) x y s) := ⟨H1.out.1, hr⟩
  have g1 := fmul e1 81
  have g2 := fmul e2 81
  have g3 := fadd e3 81
  have q0 : w1.cell? ⟨w.heap.size + 1 + 1, 0, none⟩ = some (.float .f64 0) := by rw [HR.out.1.rule _ _ (by simp)]; go_simp
  have q1 : w1.cell? ⟨w.heap.size + 1 + 1, 1, none⟩ = some (.float .f64 0) := by rw [HR.out.1.rule _ _ (by simp)]; go_simp
  have q2 : w1.cell? ⟨w.heap.size + 1 + 1, 2, none⟩ = some (.float .f64 0) := by rw [HR.out.1.rule _ _ (by simp)]; go_simp
  have q3 : ∀ o, w1.frozen? ⟨w.heap.size + 1 + 1, o, none⟩ = false := by intro o; rw [HR.out.1.frule' _ _ (by simp)]; go_simp
  have hst := store_float
  have f0 := q3 0
  have f1 := q3 1
  have f2 := q3 2
  clear e1 e2 e3 H1 hr q3
  go_wp2_with fail
  refine bodyPost_ret (v := .agg #[.float .f64 x.1, .float .f64 y.1, .float .f64 s.1]) (by simp [results, Try.results79, go_sem, q0, q1, q2]) rfl ?_
  refine ⟨x, y, s, rfl, ?_, HR.out.2⟩
  exact Below.new' ((((New.below' ((((New.alloc w _).alloc' _).alloc' _).trans' HR.out.1)).setCell (p := ⟨w.heap.size + 1 + 1, 0, none⟩) (by simp <;> omega) (.float .f64 x.1)).setCell (p := ⟨w.heap.size + 1 + 1, 1, none⟩) (by simp <;> omega) (.float .f64 y.1)).setCell (p := ⟨w.heap.size + 1 + 1, 2, none⟩) (by simp <;> omega) (.float .f64 s.1))

/-- A term of the determinant, rounded, and its size. -/
structure RTerm (T : Int) (val size : Nat × Int) : Prop where
  wv : F val.1 val.2 0
  wz : F size.1 size.2 0
  err : ∃ s, E T val.2 s 1175 ∧ G s size.2 259
  sv : (val.2.natAbs : Int) ≤ 2 ^ 222
  sz : (size.2.natAbs : Int) ≤ 2 ^ 222

theorem rterm_words {A B C D X Y : Int} {ux uy us vx vy vs wx wy ws : Nat × Int} (hu : RRow X Y ux uy us) (hv : RRow A B vx vy vs) (hw : RRow C D wx wy ws) :
    ∃ (l r d t : Nat) (val size : Nat × Int), Ieee.double.mul vx.1 wy.1 = some l ∧ Ieee.double.mul vy.1 wx.1 = some r ∧ Ieee.double.sub l r = some d ∧ Ieee.double.mul us.1 d = some val.1 ∧ Ieee.double.add (ab l) (ab r) = some t ∧ Ieee.double.mul us.1 t = some size.1 ∧
      l < 2 ^ 64 ∧ r < 2 ^ 64 ∧ RTerm ((X * X + Y * Y) * (A * D - B * C)) val size := by
  have b1 := mul_le_p2 hv.dx.p2 hw.dy.p2
  have b2 := mul_le_p2 hv.dy.p2 hw.dx.p2
  obtain ⟨l, zl, e1, q1, f1⟩ := hv.dx.word.mul hw.dy.word (by omega) (small_Big b1 (by omega))
  obtain ⟨r, zr, e2, q2, f2⟩ := hv.dy.word.mul hw.dx.word (by omega) (small_Big b2 (by omega))
  have c1 := rnd_p2 q1 b1
  have c2 := rnd_p2 q2 b2
  have b3 := sub_le_p2 c1 c2
  obtain ⟨d, zd, e3, q3, f3⟩ := f1.sub f2 (by omega) (small_Big b3 (by omega))
  have c3 := rnd_p2 q3 b3
  have b4 : (((zl.natAbs : Int) + (zr.natAbs : Int)).natAbs : Int) ≤ 2 ^ (55 + 55 + 1) := add_le_p2 (by simpa using c1) (by simpa using c2)
  obtain ⟨t, zt, e4, q4, f4⟩ := f1.abs.add f2.abs (by omega) (small_Big b4 (by omega))
  have c4 := rnd_p2 q4 b4
  have b5 := mul_le_p2 hu.small c3
  have b6 := mul_le_p2 hu.small c4
  obtain ⟨v, zv, e5, q5, f5⟩ := hu.ws.mul f3 (by omega) (small_Big b5 (by omega))
  obtain ⟨z, zz, e6, q6, f6⟩ := hu.ws.mul f4 (by omega) (small_Big b6 (by omega))
  have E1 : E (A * D) zl zl.natAbs 391 := (((E.rnd hv.dx.rnd).mul (E.rnd hw.dy.rnd) (by omega) (by omega) (by omega) (by omega)).round q1 (by rw [Int.natAbs_mul, Int.natCast_mul]) (by omega) (by omega)).mono (by omega)
  have E2 : E (B * C) zr zr.natAbs 391 := (((E.rnd hv.dy.rnd).mul (E.rnd hw.dx.rnd) (by omega) (by omega) (by omega) (by omega)).round q2 (by rw [Int.natAbs_mul, Int.natCast_mul]) (by omega) (by omega)).mono (by omega)
  have E3 := (E1.sub E2).roundS q3 (by omega) (by omega)
  have E4 := ((hu.err.mul E3 (by omega) (by omega) (by omega) (by omega)).roundS q5 (by omega) (by omega)).mono (show _ ≤ 1175 by omega)
  have G1 := ((G.rnd q4 (by omega)).mul hu.nn).round q6 (by omega) (by omega)
  exact ⟨l, r, d, t, (v, zv), (z, zz), e1, e2, e3, e5, e4, e6, f1.1, f2.1, f5, f6, ⟨_, E4, G1⟩, rnd_p2 q5 b5, rnd_p2 q6 b6⟩

theorem abs_same (b : Nat) (w : World) (h : b < 2 ^ 64) : Calls Try.prog 74 #[.float .f64 b] w fun e w' => e = .returned (.float .f64 (ab b)) ∧ w' = w := abs_walk b w h

set_option maxHeartbeats 800000 in
theorem roughTerm_any {A B C D X Y : Int} {ux uy us vx vy vs wx wy ws : Nat × Int} (w : World) (hu : RRow X Y ux uy us) (hv : RRow A B vx vy vs) (hw : RRow C D wx wy ws) :
    Calls Try.prog 80 #[.agg #[.float .f64 ux.1, .float .f64 uy.1, .float .f64 us.1], .agg #[.float .f64 vx.1, .float .f64 vy.1, .float .f64 vs.1], .agg #[.float .f64 wx.1, .float .f64 wy.1, .float .f64 ws.1]] w fun e w' =>
      ∃ val size : Nat × Int, e = .returned (.tuple #[.float .f64 val.1, .float .f64 size.1]) ∧ Hid (New w w' ∧ RTerm ((X * X + Y * Y) * (A * D - B * C)) val size) := by
  obtain ⟨l, r, d, t, val, size, e1, e2, e3, e4, e5, e6, hl, hr, ht⟩ := rterm_words hu hv hw
  have HT : Hid (RTerm ((X * X + Y * Y) * (A * D - B * C)) val size) := ht
  have g1 := fmul e1 81
  have g2 := fmul e2 81
  have g3 := fsub e3 81
  have g4 := fmul e4 81
  have g5 := fadd e5 81
  have g6 := fmul e6 81
  clear e1 e2 e3 e4 e5 e6 ht hu hv hw
  go_enter Try.func80, Try.ntmps80
  go_wp2_with fail
  go_quiet (fail)
  go_wp2_with fail
  generalize hV : ((((w.alloc (.cells #[.float .f64 ux.1, .float .f64 uy.1, .float .f64 us.1] 93)).alloc (.cells #[.float .f64 vx.1, .float .f64 vy.1, .float .f64 vs.1] 93)).alloc (.cells #[.float .f64 wx.1, .float .f64 wy.1, .float .f64 ws.1] 93)).drewN nq) = V
  have hc : V.cell? ⟨w.heap.size, 2, none⟩ = some (.float .f64 us.1) := by subst hV; go_simp
  have HN : Hid (New w V) := by rw [← hV]; exact (((New.alloc _ _).alloc' _).alloc' _).drewN _
  clear hV
  go_quiet (first | (go_at_call 74; exact Calls.quiet_of_same (abs_same l _ hl)) | (go_at_call 74; exact Calls.quiet_of_same (abs_same r _ hr)))
  go_wp2_with fail
  go_ret2
  refine ⟨val, size, rfl, ?_, HT.out⟩
  exact HN.out.drewN _

end Go.Proofs.Ytgeoffpcmkofkaa
/- The walk of 'Sorted' of package order. -/
namespace Go.Proofs.Ytgeoffpcmkofkaa
open Go.RowKit Fl
set_option maxRecDepth 100000
attribute [local go_sem ↓] Go.wp_at_zero Go.wp_at_succ

theorem set_other {W : World} {b k i o : Nat} {x : Value} (h : k ≠ b) : (W.setCell ⟨b, i, none⟩ x).cell? ⟨k, o, none⟩ = W.cell? ⟨k, o, none⟩ :=
  World.cell?_of_block (a := ⟨k, o, none⟩) (heap_setCell_other W ⟨b, i, none⟩ k x h)
theorem New.set {w w1 : World} (h : New w w1) {b o : Nat} (hb : w.heap.size ≤ b) (x : Value) : New w (w1.setCell ⟨b, o, none⟩ x) :=
  Below.new' ((New.below' h).setCell (p := ⟨b, o, none⟩) hb x)
theorem drew_cell {W : World} {a : Addr} : W.drew.cell? a = W.cell? a := rfl

set_option maxHeartbeats 800000 in
theorem sorted_yes (ax ay bx by' : Int) (w : World) (h : 0 < cmpP (ax, ay) (bx, by')) :
    Calls Try.prog 84 #[.agg #[.int .i64 ax, .int .i64 ay], .agg #[.int .i64 bx, .int .i64 by']] w fun e w' => e = .returned (.tuple #[.agg #[.int .i64 bx, .int .i64 by'], .agg #[.int .i64 ax, .int .i64 ay]]) ∧ Hid (New w w') := by
  go_enter Try.func84, Try.ntmps84
  go_wp2_with fail
  refine (compare_any ax ay bx by' _).mono ?_
  rintro e w1 ⟨rfl, H1⟩
  have HW : Hid (New w w1) := ((((New.alloc _ _).alloc' _).alloc' _).alloc' _).trans' H1.out
  have a0 : w1.cell? ⟨w.heap.size, 0, none⟩ = some (.int .i64 ax) := by rw [H1.out.rule _ _ (by simp; omega)]; go_simp
  have a1 : w1.cell? ⟨w.heap.size, 1, none⟩ = some (.int .i64 ay) := by rw [H1.out.rule _ _ (by simp; omega)]; go_simp
  have b0 : w1.cell? ⟨w.heap.size + 1, 0, none⟩ = some (.int .i64 bx) := by rw [H1.out.rule _ _ (by simp)]; go_simp
  have b1 : w1.cell? ⟨w.heap.size + 1, 1, none⟩ = some (.int .i64 by') := by rw [H1.out.rule _ _ (by simp)]; go_simp
  have u0 : w1.cell? ⟨w.heap.size + 1 + 1, 0, none⟩ = some (.int .i64 0) := by rw [H1.out.rule _ _ (by simp)]; go_simp
  have u1 : w1.cell? ⟨w.heap.size + 1 + 1, 1, none⟩ = some (.int .i64 0) := by rw [H1.out.rule _ _ (by simp)]; go_simp
  have v0 : w1.cell? ⟨w.heap.size + 1 + 1 + 1, 0, none⟩ = some (.int .i64 0) := by rw [H1.out.rule _ _ (by simp)]; go_simp
  have v1 : w1.cell? ⟨w.heap.size + 1 + 1 + 1, 1, none⟩ = some (.int .i64 0) := by rw [H1.out.rule _ _ (by simp)]; go_simp
  have fu : ∀ o, w1.frozen? ⟨w.heap.size + 1 + 1, o, none⟩ = false := fun o => by rw [H1.out.frule' _ _ (by simp)]; go_simp
  have fv : ∀ o, w1.frozen? ⟨w.heap.size + 1 + 1 + 1, o, none⟩ = false := fun o => by rw [H1.out.frule' _ _ (by simp)]; go_simp
  clear H1
  have n1 : w.heap.size ≠ w.heap.size + 1 + 1 := by omega
  have n2 : w.heap.size ≠ w.heap.size + 1 + 1 + 1 := by omega
  have n3 : w.heap.size + 1 ≠ w.heap.size + 1 + 1 := by omega
  have n4 : w.heap.size + 1 ≠ w.heap.size + 1 + 1 + 1 := by omega
  have n5 : w.heap.size + 1 + 1 ≠ w.heap.size + 1 + 1 + 1 := by omega
  have HB : Hid (w.heap.size ≤ w.heap.size + 1 + 1 ∧ w.heap.size ≤ w.heap.size + 1 + 1 + 1) := ⟨by omega, by omega⟩
  go_wp2_with fail
  generalize w.heap.size + 1 + 1 + 1 = B3 at *
  generalize w.heap.size + 1 + 1 = B2 at *
  go_region_held3 (fun w' => w'.cell? ⟨w.heap.size, 0, none⟩ = some (.int .i64 ax) ∧ w'.cell? ⟨w.heap.size, 1, none⟩ = some (.int .i64 ay) ∧ w'.cell? ⟨w.heap.size + 1, 0, none⟩ = some (.int .i64 bx) ∧ w'.cell? ⟨w.heap.size + 1, 1, none⟩ = some (.int .i64 by'))
    (first
      | (simp only [drew_cell, set_other n1, set_other n2, set_other n3, set_other n4]; exact ⟨a0, a1, b0, b1⟩)
      | go_keep)
    (first
      | fail)
  go_wp2_with fail
  refine bodyPost_ret (v := .tuple #[.agg #[.int .i64 bx, .int .i64 by'], .agg #[.int .i64 ax, .int .i64 ay]]) (by simp [results, Try.results84, go_sem, u0, u1, v0, v1]) rfl ?_
  exact ⟨rfl, ((((HW.out.set HB.out.1 _).set HB.out.1 _).set HB.out.2 _).set HB.out.2 _).drewN 1⟩

set_option maxHeartbeats 800000 in
theorem sorted_no (ax ay bx by' : Int) (w : World) (h : cmpP (ax, ay) (bx, by') ≤ 0) :
    Calls Try.prog 84 #[.agg #[.int .i64 ax, .int .i64 ay], .agg #[.int .i64 bx, .int .i64 by']] w fun e w' => e = .returned (.tuple #[.agg #[.int .i64 ax, .int .i64 ay], .agg #[.int .i64 bx, .int .i64 by']]) ∧ Hid (New w w') := by
  go_enter Try.func84, Try.ntmps84
  go_wp2_with fail
  refine (compare_any ax ay bx by' _).mono ?_
  rintro e w1 ⟨rfl, H1⟩
  have HW : Hid (New w w1) := ((((New.alloc _ _).alloc' _).alloc' _).alloc' _).trans' H1.out
  have a0 : w1.cell? ⟨w.heap.size, 0, none⟩ = some (.int .i64 ax) := by rw [H1.out.rule _ _ (by simp; omega)]; go_simp
  have a1 : w1.cell? ⟨w.heap.size, 1, none⟩ = some (.int .i64 ay) := by rw [H1.out.rule _ _ (by simp; omega)]; go_simp
  have b0 : w1.cell? ⟨w.heap.size + 1, 0, none⟩ = some (.int .i64 bx) := by rw [H1.out.rule _ _ (by simp)]; go_simp
  have b1 : w1.cell? ⟨w.heap.size + 1, 1, none⟩ = some (.int .i64 by') := by rw [H1.out.rule _ _ (by simp)]; go_simp
  have u0 : w1.cell? ⟨w.heap.size + 1 + 1, 0, none⟩ = some (.int .i64 0) := by rw [H1.out.rule _ _ (by simp)]; go_simp
  have u1 : w1.cell? ⟨w.heap.size + 1 + 1, 1, none⟩ = some (.int .i64 0) := by rw [H1.out.rule _ _ (by simp)]; go_simp
  have v0 : w1.cell? ⟨w.heap.size + 1 + 1 + 1, 0, none⟩ = some (.int .i64 0) := by rw [H1.out.rule _ _ (by simp)]; go_simp
  have v1 : w1.cell? ⟨w.heap.size + 1 + 1 + 1, 1, none⟩ = some (.int .i64 0) := by rw [H1.out.rule _ _ (by simp)]; go_simp
  have fu : ∀ o, w1.frozen? ⟨w.heap.size + 1 + 1, o, none⟩ = false := fun o => by rw [H1.out.frule' _ _ (by simp)]; go_simp
  have fv : ∀ o, w1.frozen? ⟨w.heap.size + 1 + 1 + 1, o, none⟩ = false := fun o => by rw [H1.out.frule' _ _ (by simp)]; go_simp
  clear H1
  have n1 : w.heap.size ≠ w.heap.size + 1 + 1 := by omega
  have n2 : w.heap.size ≠ w.heap.size + 1 + 1 + 1 := by omega
  have n3 : w.heap.size + 1 ≠ w.heap.size + 1 + 1 := by omega
  have n4 : w.heap.size + 1 ≠ w.heap.size + 1 + 1 + 1 := by omega
  have n5 : w.heap.size + 1 + 1 ≠ w.heap.size + 1 + 1 + 1 := by omega
  have HB : Hid (w.heap.size ≤ w.heap.size + 1 + 1 ∧ w.heap.size ≤ w.heap.size + 1 + 1 + 1) := ⟨by omega, by omega⟩
  go_wp2_with fail
  generalize w.heap.size + 1 + 1 + 1 = B3 at *
  generalize w.heap.size + 1 + 1 = B2 at *
  go_region_held3 (fun w' => w'.cell? ⟨w.heap.size, 0, none⟩ = some (.int .i64 ax) ∧ w'.cell? ⟨w.heap.size, 1, none⟩ = some (.int .i64 ay) ∧ w'.cell? ⟨w.heap.size + 1, 0, none⟩ = some (.int .i64 bx) ∧ w'.cell? ⟨w.heap.size + 1, 1, none⟩ = some (.int .i64 by'))
    (first
      | (simp only [drew_cell, set_other n1, set_other n2, set_other n3, set_other n4]; exact ⟨a0, a1, b0, b1⟩)
      | go_keep)
    (first
      | fail)
  go_wp2_with fail
  refine bodyPost_ret (v := .tuple #[.agg #[.int .i64 ax, .int .i64 ay], .agg #[.int .i64 bx, .int .i64 by']]) (by simp [results, Try.results84, go_sem, u0, u1, v0, v1]) rfl ?_
  exact ⟨rfl, ((((HW.out.set HB.out.1 _).set HB.out.1 _).set HB.out.2 _).set HB.out.2 _).drewN 1⟩

/-- Two points, the one that comes first ahead. -/
theorem sorted_any (ax ay bx by' : Int) (w : World) (ha : CdP (ax, ay)) (hb : CdP (bx, by')) :
    Calls Try.prog 84 #[.agg #[.int .i64 ax, .int .i64 ay], .agg #[.int .i64 bx, .int .i64 by']] w fun e w' => ∃ fx fy lx ly : Int, e = .returned (.tuple #[.agg #[.int .i64 fx, .int .i64 fy], .agg #[.int .i64 lx, .int .i64 ly]]) ∧
      Hid (K (fx, fy) = min (K (ax, ay)) (K (bx, by')) ∧ K (lx, ly) = max (K (ax, ay)) (K (bx, by')) ∧ (((fx, fy) = (ax, ay) ∧ (lx, ly) = (bx, by')) ∨ ((fx, fy) = (bx, by') ∧ (lx, ly) = (ax, ay)))) ∧ Hid (New w w') := by
  have hc := cmpP_eq ha hb
  by_cases h : 0 < cmpP (ax, ay) (bx, by')
  · refine (sorted_yes ax ay bx by' w h).mono ?_
    rintro e w1 ⟨rfl, H1⟩
    rw [hc, sgn_pos] at h
    exact ⟨_, _, _, _, rfl, ⟨by omega, by omega, Or.inr ⟨rfl, rfl⟩⟩, H1⟩
  · refine (sorted_no ax ay bx by' w (by omega)).mono ?_
    rintro e w1 ⟨rfl, H1⟩
    rw [hc, sgn_pos] at h
    exact ⟨_, _, _, _, rfl, ⟨by omega, by omega, Or.inl ⟨rfl, rfl⟩⟩, H1⟩

end Go.Proofs.Ytgeoffpcmkofkaa
/- The walks of package segment. -/
namespace Go.Proofs.Ytgeoffpcmkofkaa
open Go.RowKit Fl
set_option maxRecDepth 100000
attribute [local go_sem ↓] Go.wp_at_zero Go.wp_at_succ

/-- What 'Sorted' answers. -/
def Srt (a b f l : Pt) : Prop := K f = min (K a) (K b) ∧ K l = max (K a) (K b) ∧ ((f = a ∧ l = b) ∨ (f = b ∧ l = a))

theorem Srt.cd {a b f l : Pt} (h : Srt a b f l) (ha : CdP a) (hb : CdP b) : CdP f ∧ CdP l := by
  rcases h.2.2 with ⟨rfl, rfl⟩ | ⟨rfl, rfl⟩
  · exact ⟨ha, hb⟩
  · exact ⟨hb, ha⟩

theorem holds_val {a b f l p : Pt} (h : Srt a b f l) (ha : CdP a) (hb : CdP b) (hp : CdP p) : onP a b p ↔ cmpP f p ≤ 0 ∧ cmpP p l ≤ 0 ∧ sgn (D f l p) = 0 := by
  have hc := h.cd ha hb
  rw [holds_iff ha hb hp, cmpP_eq hc.1 hp, cmpP_eq hp hc.2, sgn_zero]
  have e1 : sgn (K f - K p) ≤ 0 ↔ K f ≤ K p := by rcases sgn_cases (K f - K p) with h | h | h <;> omega
  have e2 : sgn (K p - K l) ≤ 0 ↔ K p ≤ K l := by rcases sgn_cases (K p - K l) with h | h | h <;> omega
  have e3 : D f l p = 0 ↔ D a b p = 0 := by
    rcases h.2.2 with ⟨rfl, rfl⟩ | ⟨rfl, rfl⟩
    · exact Iff.rfl
    · rw [D_swap]; omega
  rw [e1, e2, e3]
  obtain ⟨h1, h2, h3⟩ := h
  omega

set_option maxHeartbeats 800000 in
theorem holds_any (ax ay bx by' px py : Int) (w : World) (ha : CdP (ax, ay)) (hb : CdP (bx, by')) (hp : CdP (px, py)) :
    Calls Try.prog 66 #[.agg #[.int .i64 ax, .int .i64 ay, .int .i64 bx, .int .i64 by'], .agg #[.int .i64 px, .int .i64 py]] w fun e w' => e = .returned (.bool (onB (ax, ay) (bx, by') (px, py))) ∧ Hid (New w w') := by
  go_enter Try.func66, Try.ntmps66
  go_wp2_with fail
  refine (sorted_any ax ay bx by' _ ha hb).mono ?_
  rintro e w1 ⟨fx, fy, lx, ly, rfl, HK, H1⟩
  have HW : Hid (New w w1) := ((New.alloc _ _).alloc' _).trans' H1.out
  have p0 : w1.cell? ⟨w.heap.size + 1, 0, none⟩ = some (.int .i64 px) := by rw [H1.out.rule _ _ (by simp)]; go_simp
  have p1 : w1.cell? ⟨w.heap.size + 1, 1, none⟩ = some (.int .i64 py) := by rw [H1.out.rule _ _ (by simp)]; go_simp
  have HL : Hid (w.heap.size + 1 < w1.heap.size) := by have := H1.out.size; simp at this; unfold Hid; omega
  have p0' : ∀ o1 o2, ((w1.alloc o1).alloc o2).cell? ⟨w.heap.size + 1, 0, none⟩ = some (.int .i64 px) := fun o1 o2 => (((New.alloc w1 o1).alloc' o2).rule _ _ HL.out).trans p0
  have p1' : ∀ o1 o2, ((w1.alloc o1).alloc o2).cell? ⟨w.heap.size + 1, 1, none⟩ = some (.int .i64 py) := fun o1 o2 => (((New.alloc w1 o1).alloc' o2).rule _ _ HL.out).trans p1
  clear H1
  go_wp2_with fail
  refine (compare_any fx fy px py _).mono ?_
  rintro e w2 ⟨rfl, H2⟩
  have HV : Hid (onP (ax, ay) (bx, by') (px, py) ↔ cmpP (fx, fy) (px, py) ≤ 0 ∧ cmpP (px, py) (lx, ly) ≤ 0 ∧ sgn (D (fx, fy) (lx, ly) (px, py)) = 0) := holds_val HK.out ha hb hp
  have HC : Hid (CdP (fx, fy) ∧ CdP (lx, ly) ∧ CdP (px, py)) := ⟨(Srt.cd HK.out ha hb).1, (Srt.cd HK.out ha hb).2, hp⟩
  have HN : Hid (New w w2) := ((HW.out.alloc' _).alloc' _).trans' H2.out
  have r2 := H2.out.rule
  have f0 : w2.cell? ⟨w1.heap.size, 0, none⟩ = some (.int .i64 fx) := by rw [r2 _ _ (by simp; omega)]; go_simp
  have f1 : w2.cell? ⟨w1.heap.size, 1, none⟩ = some (.int .i64 fy) := by rw [r2 _ _ (by simp; omega)]; go_simp
  have l0 : w2.cell? ⟨w1.heap.size + 1, 0, none⟩ = some (.int .i64 lx) := by rw [r2 _ _ (by simp)]; go_simp
  have l1 : w2.cell? ⟨w1.heap.size + 1, 1, none⟩ = some (.int .i64 ly) := by rw [r2 _ _ (by simp)]; go_simp
  have q0 : w2.cell? ⟨w.heap.size + 1, 0, none⟩ = some (.int .i64 px) := by rw [r2 _ _ (by have := HL.out; simp; omega)]; exact p0' _ _
  have q1 : w2.cell? ⟨w.heap.size + 1, 1, none⟩ = some (.int .i64 py) := by rw [r2 _ _ (by have := HL.out; simp; omega)]; exact p1' _ _
  have HS : Hid (w.heap.size + 1 < w2.heap.size ∧ w1.heap.size + 1 < w2.heap.size) := by have h := H2.out.size; have := HL.out; simp at h; exact ⟨by omega, by omega⟩
  clear r2 H2 p0 p1 p0' p1' HL HK ha hb hp
  by_cases h1 : cmpP (fx, fy) (px, py) ≤ 0
  · have HF1 : Hid (cmpP (fx, fy) (px, py) ≤ 0) := h1
    go_wp2_with fail
    refine (compare_any px py lx ly _).mono ?_
    rintro e w3 ⟨rfl, H3⟩
    have HN3 : Hid (New w w3) := HN.out.trans' H3.out
    have f0' : w3.cell? ⟨w1.heap.size, 0, none⟩ = some (.int .i64 fx) := (H3.out.rule _ _ (by have := HS.out; omega)).trans f0
    have f1' : w3.cell? ⟨w1.heap.size, 1, none⟩ = some (.int .i64 fy) := (H3.out.rule _ _ (by have := HS.out; omega)).trans f1
    have l0' : w3.cell? ⟨w1.heap.size + 1, 0, none⟩ = some (.int .i64 lx) := (H3.out.rule _ _ (by have := HS.out; omega)).trans l0
    have l1' : w3.cell? ⟨w1.heap.size + 1, 1, none⟩ = some (.int .i64 ly) := (H3.out.rule _ _ (by have := HS.out; omega)).trans l1
    have q0' : w3.cell? ⟨w.heap.size + 1, 0, none⟩ = some (.int .i64 px) := (H3.out.rule _ _ (by have := HS.out; omega)).trans q0
    have q1' : w3.cell? ⟨w.heap.size + 1, 1, none⟩ = some (.int .i64 py) := (H3.out.rule _ _ (by have := HS.out; omega)).trans q1
    clear H3 f0 f1 l0 l1 q0 q1 HN
    by_cases h2 : cmpP (px, py) (lx, ly) ≤ 0
    · have HF2 : Hid (cmpP (px, py) (lx, ly) ≤ 0) := h2
      go_wp2_with fail
      refine (of_any fx fy lx ly px py _ HC.out.1.1 HC.out.1.2 HC.out.2.1.1 HC.out.2.1.2 HC.out.2.2.1 HC.out.2.2.2).mono ?_
      rintro e w4 ⟨rfl, H4⟩
      by_cases h3 : sgn (det fx fy lx ly px py) = 0
      · have HF : Hid (onB (ax, ay) (bx, by') (px, py) = true) := decide_eq_true (HV.out.2 ⟨HF1.out, HF2.out, h3⟩)
        go_wp2_with fail
        go_ret
        exact ⟨by rw [HF.out]; rfl, HN3.out.trans' H4.out⟩
      · have HF : Hid (onB (ax, ay) (bx, by') (px, py) = false) := decide_eq_false (fun h => h3 (HV.out.1 h).2.2)
        go_wp2_with fail
        go_ret
        exact ⟨by rw [HF.out]; simp [h3], HN3.out.trans' H4.out⟩
    · have HF : Hid (onB (ax, ay) (bx, by') (px, py) = false) := decide_eq_false (fun h => h2 (HV.out.1 h).2.1)
      have h2' : ¬ (cmpP (px, py) (lx, ly) ≤ 0) := h2
      go_wp2_with fail
      go_ret
      exact ⟨by rw [HF.out]; rfl, HN3⟩
  · have HF : Hid (onB (ax, ay) (bx, by') (px, py) = false) := decide_eq_false (fun h => h1 (HV.out.1 h).1)
    go_wp2_with fail
    go_ret
    exact ⟨by rw [HF.out]; rfl, HN⟩

end Go.Proofs.Ytgeoffpcmkofkaa
/- The walks of 'meetInLine' and 'Meet' of package segment. -/
namespace Go.Proofs.Ytgeoffpcmkofkaa
open Go.RowKit Fl
set_option maxRecDepth 100000
attribute [local go_sem ↓] Go.wp_at_zero Go.wp_at_succ

theorem New.kept {w1 w2 : World} (h : New w1 w2) {b o : Nat} {v : Value} (hc : w1.cell? ⟨b, o, none⟩ = some v) : w2.cell? ⟨b, o, none⟩ = some v :=
  (h.rule b o (World.block_lt_of_cell? w1 _ hc)).trans hc
theorem behind2 {w1 : World} {b o : Nat} {v : Value} (hc : w1.cell? ⟨b, o, none⟩ = some v) : ∀ o1 o2, ((w1.alloc o1).alloc o2).cell? ⟨b, o, none⟩ = some v := fun o1 o2 => ((New.alloc w1 o1).alloc' o2).kept hc

set_option maxHeartbeats 1600000 in
theorem line_any (ax ay bx by' cx cy dx dy : Int) (w : World) (ha : CdP (ax, ay)) (hb : CdP (bx, by')) (hc : CdP (cx, cy)) (hd : CdP (dx, dy)) :
    Calls Try.prog 64 #[.agg #[.int .i64 ax, .int .i64 ay, .int .i64 bx, .int .i64 by'], .agg #[.int .i64 cx, .int .i64 cy, .int .i64 dx, .int .i64 dy]] w fun e w' => e = .returned (.int .i64 (lineN (ax, ay) (bx, by') (cx, cy) (dx, dy))) ∧ Hid (New w w') := by
  go_enter Try.func64, Try.ntmps64
  go_wp2_with fail
  refine (sorted_any ax ay bx by' _ ha hb).mono ?_
  rintro e w1 ⟨fx, fy, lx, ly, rfl, HK1, H1⟩
  have HW1 : Hid (New w w1) := ((New.alloc _ _).alloc' _).trans' H1.out
  have t0 := behind2 (show w1.cell? ⟨w.heap.size + 1, 0, none⟩ = some (.int .i64 cx) by rw [H1.out.rule _ _ (by simp)]; go_simp)
  have t1 := behind2 (show w1.cell? ⟨w.heap.size + 1, 1, none⟩ = some (.int .i64 cy) by rw [H1.out.rule _ _ (by simp)]; go_simp)
  have t2 := behind2 (show w1.cell? ⟨w.heap.size + 1, 2, none⟩ = some (.int .i64 dx) by rw [H1.out.rule _ _ (by simp)]; go_simp)
  have t3 := behind2 (show w1.cell? ⟨w.heap.size + 1, 3, none⟩ = some (.int .i64 dy) by rw [H1.out.rule _ _ (by simp)]; go_simp)
  clear H1
  go_wp2_with fail
  refine (sorted_any cx cy dx dy _ hc hd).mono ?_
  rintro e w2 ⟨gx, gy, mx, my, rfl, HK2, H2⟩
  have HW2 : Hid (New w w2) := ((HW1.out.alloc' _).alloc' _).trans' H2.out
  have HC : Hid ((CdP (fx, fy) ∧ CdP (lx, ly)) ∧ (CdP (gx, gy) ∧ CdP (mx, my))) := ⟨Srt.cd HK1.out ha hb, Srt.cd HK2.out hc hd⟩
  have f0 := behind2 (show w2.cell? ⟨w1.heap.size, 0, none⟩ = some (.int .i64 fx) by rw [H2.out.rule _ _ (by simp; omega)]; go_simp)
  have f1 := behind2 (show w2.cell? ⟨w1.heap.size, 1, none⟩ = some (.int .i64 fy) by rw [H2.out.rule _ _ (by simp; omega)]; go_simp)
  have l0 : w2.cell? ⟨w1.heap.size + 1, 0, none⟩ = some (.int .i64 lx) := by rw [H2.out.rule _ _ (by simp)]; go_simp
  have l1 : w2.cell? ⟨w1.heap.size + 1, 1, none⟩ = some (.int .i64 ly) := by rw [H2.out.rule _ _ (by simp)]; go_simp
  clear t0 t1 t2 t3 H2
  go_wp2_with fail
  refine (sorted_any fx fy gx gy _ HC.out.1.1 HC.out.2.1).mono ?_
  rintro e w3 ⟨hx, hy, nx, ny, rfl, HK3, H3⟩
  have HW3 : Hid (New w w3) := ((HW2.out.alloc' _).alloc' _).trans' H3.out
  have HC3 : Hid (CdP (hx, hy) ∧ CdP (nx, ny)) := Srt.cd HK3.out HC.out.1.1 HC.out.2.1
  have l0' : w3.cell? ⟨w1.heap.size + 1, 0, none⟩ = some (.int .i64 lx) := H3.out.kept (behind2 l0 _ _)
  have l1' : w3.cell? ⟨w1.heap.size + 1, 1, none⟩ = some (.int .i64 ly) := H3.out.kept (behind2 l1 _ _)
  have m0 : w3.cell? ⟨w2.heap.size + 1, 0, none⟩ = some (.int .i64 mx) := by rw [H3.out.rule _ _ (by simp)]; go_simp
  have m1 : w3.cell? ⟨w2.heap.size + 1, 1, none⟩ = some (.int .i64 my) := by rw [H3.out.rule _ _ (by simp)]; go_simp
  have l0a := behind2 l0'
  have l1a := behind2 l1'
  have m0a := behind2 m0
  have m1a := behind2 m1
  clear H3 f0 f1 l0 l1
  go_wp2_with fail
  refine (sorted_any lx ly mx my _ HC.out.1.2 HC.out.2.2).mono ?_
  rintro e w4 ⟨ix, iy, ox, oy, rfl, HK4, H4⟩
  have HW4 : Hid (New w w4) := ((HW3.out.alloc' _).alloc' _).trans' H4.out
  have HC4 : Hid (CdP (ix, iy) ∧ CdP (ox, oy)) := Srt.cd HK4.out HC.out.1.2 HC.out.2.2
  have n0 : w4.cell? ⟨w3.heap.size + 1, 0, none⟩ = some (.int .i64 nx) := by rw [H4.out.rule _ _ (by simp)]; go_simp
  have n1 : w4.cell? ⟨w3.heap.size + 1, 1, none⟩ = some (.int .i64 ny) := by rw [H4.out.rule _ _ (by simp)]; go_simp
  have n0a := behind2 n0
  have n1a := behind2 n1
  clear H4 l0' l1' m0 m1 l0a l1a m0a m1a
  have HE : Hid (cmpP (ix, iy) (nx, ny) = sgn (K (ix, iy) - K (nx, ny))) := cmpP_eq HC4.out.1 HC3.out.2
  have HV : Hid ((0 < cmpP (ix, iy) (nx, ny) → lineN (ax, ay) (bx, by') (cx, cy) (dx, dy) = 3) ∧ (cmpP (ix, iy) (nx, ny) = 0 → lineN (ax, ay) (bx, by') (cx, cy) (dx, dy) = 2) ∧ (cmpP (ix, iy) (nx, ny) < 0 → lineN (ax, ay) (bx, by') (cx, cy) (dx, dy) = 0)) := by
    have k1 := HK1.out
    have k2 := HK2.out
    have k3 := HK3.out.2.1
    have k4 := HK4.out.1
    rw [k1.1, k2.1] at k3
    rw [k1.2.1, k2.2.1] at k4
    rw [Hid, HE.out, sgn_pos, sgn_zero, sgn_neg']
    unfold lineN
    rw [← k3, ← k4]
    refine ⟨fun h => by rw [if_pos (by omega)], fun h => by rw [if_neg (by omega), if_pos (by omega)], fun h => by rw [if_neg (by omega), if_neg (by omega)]⟩
  clear HK1 HK2 HK3 HK4 HC HC3 HC4 HE
  go_wp2_with fail
  refine (compare_any ix iy nx ny _).mono ?_
  rintro e w5 ⟨rfl, H5⟩
  have HW5 : Hid (New w w5) := ((HW4.out.alloc' _).alloc' _).trans' H5.out
  clear H5
  rcases Int.lt_trichotomy (cmpP (ix, iy) (nx, ny)) 0 with h | h | h
  · have HR : Hid (lineN (ax, ay) (bx, by') (cx, cy) (dx, dy) = 0) := HV.out.2.2 h
    go_wp2_with fail
    go_ret
    exact ⟨by rw [HR.out]; rfl, HW5⟩
  · have HR : Hid (lineN (ax, ay) (bx, by') (cx, cy) (dx, dy) = 2) := HV.out.2.1 h
    go_wp2_with fail
    go_ret
    exact ⟨by rw [HR.out]; rfl, HW5⟩
  · have HR : Hid (lineN (ax, ay) (bx, by') (cx, cy) (dx, dy) = 3) := HV.out.1 h
    go_wp2_with fail
    go_ret
    exact ⟨by rw [HR.out]; rfl, HW5⟩

end Go.Proofs.Ytgeoffpcmkofkaa
