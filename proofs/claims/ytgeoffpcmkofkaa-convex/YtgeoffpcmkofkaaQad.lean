/- Geo; Wj; Ya; Oa; Sh; Yb; Yc: texts laid into one. -/
import Derived.Test.YtgeoffpcmkofkaaQac
import Derived.Deep.RegionHeld3
import Derived.Deep.DrawnRows
import Derived.Sort.Grow
import Derived.Shelf.SlSortCmp.WholeK
import Derived.Shelf.SlGeneric
import Derived.Test.YtgeoffpcmkofkaaProg
/- Points, sides and segments over whole numbers: what two segments have in common, told twice, is the same. -/
namespace Go.Proofs.Ytgeoffpcmkofkaa
open Fl

abbrev Pt := Int × Int
/-- The determinant of three points. -/
def D (a b c : Pt) : Int := det a.1 a.2 b.1 b.2 c.1 c.2
def CdP (p : Pt) : Prop := Cd p.1 ∧ Cd p.2
/-- The place in the order by X, then Y. -/
def K (p : Pt) : Int := p.1 * 36028797018963968 + p.2
def btw (a b c : Int) : Prop := a ≤ c ∧ c ≤ b ∨ b ≤ c ∧ c ≤ a
def onP (a b p : Pt) : Prop := btw a.1 b.1 p.1 ∧ btw a.2 b.2 p.2 ∧ D a b p = 0

theorem sgn_cases (x : Int) : (x < 0 ∧ sgn x = -1) ∨ (x = 0 ∧ sgn x = 0) ∨ (0 < x ∧ sgn x = 1) := by
  unfold sgn
  rcases Int.lt_trichotomy x 0 with h | h | h
  · exact Or.inl ⟨h, by rw [if_pos h]⟩
  · exact Or.inr (Or.inl ⟨h, by rw [if_neg (by omega), if_pos h]⟩)
  · exact Or.inr (Or.inr ⟨h, by rw [if_neg (by omega), if_neg (by omega)]⟩)
theorem sgn_zero {x : Int} : sgn x = 0 ↔ x = 0 := by rcases sgn_cases x with h | h | h <;> omega
theorem sgn_pos {x : Int} : 0 < sgn x ↔ 0 < x := by rcases sgn_cases x with h | h | h <;> omega
theorem sgn_neg' {x : Int} : sgn x < 0 ↔ x < 0 := by rcases sgn_cases x with h | h | h <;> omega
theorem sgn_mul_pos {x y : Int} : 0 < sgn x * sgn y ↔ (0 < x ∧ 0 < y) ∨ (x < 0 ∧ y < 0) := by
  rcases sgn_cases x with ⟨h, e⟩ | ⟨h, e⟩ | ⟨h, e⟩ <;> rcases sgn_cases y with ⟨k, f⟩ | ⟨k, f⟩ | ⟨k, f⟩ <;> rw [e, f] <;> omega
theorem sgn_mul_neg {x y : Int} : sgn x * sgn y < 0 ↔ (0 < x ∧ y < 0) ∨ (x < 0 ∧ 0 < y) := by
  rcases sgn_cases x with ⟨h, e⟩ | ⟨h, e⟩ | ⟨h, e⟩ <;> rcases sgn_cases y with ⟨k, f⟩ | ⟨k, f⟩ | ⟨k, f⟩ <;> rw [e, f] <;> omega

theorem pt_ext {p q : Pt} (h1 : p.1 = q.1) (h2 : p.2 = q.2) : p = q := Prod.ext h1 h2
theorem K_inj {p q : Pt} (hp : CdP p) (hq : CdP q) (h : K p = K q) : p = q := by
  obtain ⟨⟨a, b⟩, c, d⟩ := hp
  obtain ⟨⟨a', b'⟩, c', d'⟩ := hq
  unfold K at h
  exact pt_ext (by omega) (by omega)
theorem K_le {p q : Pt} (hp : CdP p) (hq : CdP q) : K p ≤ K q ↔ p.1 < q.1 ∨ p.1 = q.1 ∧ p.2 ≤ q.2 := by
  obtain ⟨⟨a, b⟩, c, d⟩ := hp
  obtain ⟨⟨a', b'⟩, c', d'⟩ := hq
  unfold K
  omega

theorem mul_eq_zero' {x y : Int} (h : x * y = 0) (hx : x ≠ 0) : y = 0 := by
  rcases Int.mul_eq_zero.1 h with h | h
  · exact absurd h hx
  · exact h

/-- Three points in the line of two others lie in a line. -/
theorem line3 {a b x y z : Pt} (hab : a ≠ b) (hx : D a b x = 0) (hy : D a b y = 0) (hz : D a b z = 0) : D x y z = 0 := by
  unfold D det at *
  by_cases h1 : b.1 - a.1 = 0
  · have h2 : b.2 - a.2 ≠ 0 := fun h2 => hab (pt_ext (by omega) (by omega))
    apply mul_eq_zero' (x := b.2 - a.2) _ h2
    grind
  · apply mul_eq_zero' (x := b.1 - a.1) _ h1
    grind

/-- A point between two others. -/
def Mix (a b p : Pt) : Prop := ∃ l m : Int, 0 ≤ l ∧ 0 ≤ m ∧ 0 < l + m ∧ (l + m) * p.1 = l * a.1 + m * b.1 ∧ (l + m) * p.2 = l * a.2 + m * b.2

theorem Mix.lin {a b p : Pt} (h : Mix a b p) : ∃ l m : Int, 0 ≤ l ∧ 0 ≤ m ∧ 0 < l + m ∧ ∀ c d : Pt, (l + m) * D c d p = l * D c d a + m * D c d b := by
  obtain ⟨l, m, hl, hm, hs, e1, e2⟩ := h
  refine ⟨l, m, hl, hm, hs, fun c d => ?_⟩
  unfold D det
  grind

theorem Mix.btw1 {l m a b p : Int} (hl : 0 ≤ l) (hm : 0 ≤ m) (hs : 0 < l + m) (e : (l + m) * p = l * a + m * b) : btw a b p := by
  unfold btw
  rcases Int.le_total a b with h | h
  · left
    constructor
    · have : 0 ≤ (l + m) * (p - a) := by
        have e2 : (l + m) * (p - a) = m * (b - a) := by grind
        rw [e2]; exact Int.mul_nonneg hm (by omega)
      have := Int.nonneg_of_mul_nonneg_right this hs
      omega
    · have : 0 ≤ (l + m) * (b - p) := by
        have e2 : (l + m) * (b - p) = l * (b - a) := by grind
        rw [e2]; exact Int.mul_nonneg hl (by omega)
      have := Int.nonneg_of_mul_nonneg_right this hs
      omega
  · right
    constructor
    · have : 0 ≤ (l + m) * (p - b) := by
        have e2 : (l + m) * (p - b) = l * (a - b) := by grind
        rw [e2]; exact Int.mul_nonneg hl (by omega)
      have := Int.nonneg_of_mul_nonneg_right this hs
      omega
    · have : 0 ≤ (l + m) * (a - p) := by
        have e2 : (l + m) * (a - p) = m * (a - b) := by grind
        rw [e2]; exact Int.mul_nonneg hm (by omega)
      have := Int.nonneg_of_mul_nonneg_right this hs
      omega

theorem D_left (a b : Pt) : D a b a = 0 := by unfold D det; grind
theorem D_right (a b : Pt) : D a b b = 0 := by unfold D det; grind
theorem D_same (a p : Pt) : D a a p = 0 := by unfold D det; grind
theorem D_rot (a b c : Pt) : D b c a = D a b c := by unfold D det; grind
theorem D_swap (a b c : Pt) : D b a c = -D a b c := by unfold D det; grind

theorem Mix.on {a b p : Pt} (h : Mix a b p) : onP a b p := by
  have h' := h
  obtain ⟨l, m, hl, hm, hs, e1, e2⟩ := h
  refine ⟨btw1 hl hm hs e1, btw1 hl hm hs e2, ?_⟩
  unfold D det
  apply mul_eq_zero' (x := l + m) _ (by omega)
  grind

theorem onP.mix {a b p : Pt} (h : onP a b p) : Mix a b p := by
  obtain ⟨h1, h2, h3⟩ := h
  unfold D det at h3
  unfold btw at h1 h2
  by_cases e1 : a.1 = b.1
  · by_cases e2 : a.2 = b.2
    · exact ⟨1, 0, by omega, by omega, by omega, by omega, by omega⟩
    · have hp : p.1 = a.1 := by omega
      rcases Int.le_total a.2 b.2 with h | h
      · exact ⟨b.2 - p.2, p.2 - a.2, by omega, by omega, by omega, by rw [hp, ← e1]; grind, by grind⟩
      · exact ⟨p.2 - b.2, a.2 - p.2, by omega, by omega, by omega, by rw [hp, ← e1]; grind, by grind⟩
  · rcases Int.le_total a.1 b.1 with h | h
    · exact ⟨b.1 - p.1, p.1 - a.1, by omega, by omega, by omega, by grind, by grind⟩
    · exact ⟨p.1 - b.1, a.1 - p.1, by omega, by omega, by omega, by grind, by grind⟩

/-- On a segment: as the order tells it. -/
theorem holds_iff {a b p : Pt} (ha : CdP a) (hb : CdP b) (hp : CdP p) : onP a b p ↔ (K a ≤ K p ∧ K p ≤ K b ∨ K b ≤ K p ∧ K p ≤ K a) ∧ D a b p = 0 := by
  rw [K_le ha hp, K_le hp hb, K_le hb hp, K_le hp ha]
  constructor
  · rintro h
    refine ⟨?_, h.2.2⟩
    by_cases e1 : a.1 = b.1
    · have h1 := h.1
      have h2 := h.2.1
      unfold btw at h1 h2
      omega
    · obtain ⟨h1, h2, h3⟩ := h
      unfold D det at h3
      have k1 : p.1 = a.1 → p.2 = a.2 := by
        intro e
        have : (b.1 - a.1) * (p.2 - a.2) = 0 := by rw [e] at h3; grind
        have := mul_eq_zero' this (by omega)
        omega
      have k2 : p.1 = b.1 → p.2 = b.2 := by
        intro e
        have : (b.1 - a.1) * (p.2 - b.2) = 0 := by rw [e] at h3; grind
        have := mul_eq_zero' this (by omega)
        omega
      unfold btw at h1
      omega
  · rintro ⟨h, h3⟩
    by_cases e1 : a.1 = b.1
    · unfold onP btw
      refine ⟨by omega, by omega, h3⟩
    · apply Mix.on
      unfold D det at h3
      rcases Int.le_total a.1 b.1 with h' | h'
      · exact ⟨b.1 - p.1, p.1 - a.1, by omega, by omega, by omega, by grind, by grind⟩
      · exact ⟨p.1 - b.1, a.1 - p.1, by omega, by omega, by omega, by grind, by grind⟩

/-- Two points on the same side: nothing between them lies in the line. -/
theorem apart {a b c d p : Pt} (h : (0 < D a b c ∧ 0 < D a b d) ∨ (D a b c < 0 ∧ D a b d < 0)) (h1 : D a b p = 0) (h2 : onP c d p) : False := by
  obtain ⟨l, m, hl, hm, hs, e⟩ := h2.mix.lin
  have e := e a b
  rw [h1, Int.mul_zero] at e
  rcases h with ⟨p, q⟩ | ⟨p, q⟩
  · rcases (show 0 < l ∨ 0 < m by omega) with k | k
    · have := Int.mul_pos k p; have := Int.mul_nonneg hm (Int.le_of_lt q); omega
    · have := Int.mul_pos k q; have := Int.mul_nonneg hl (Int.le_of_lt p); omega
  · have e' : 0 = l * (- D a b c) + m * (- D a b d) := by grind
    rcases (show 0 < l ∨ 0 < m by omega) with k | k
    · have := Int.mul_pos k (show 0 < - D a b c by omega); have := Int.mul_nonneg hm (show 0 ≤ -D a b d by omega); omega
    · have := Int.mul_pos k (show 0 < - D a b d by omega); have := Int.mul_nonneg hl (show 0 ≤ -D a b c by omega); omega

/-- An end in the other's line, whose ends lie on both sides of it. -/
theorem touch {a b c d : Pt} (h0 : D a b c = 0) (hd : D a b d ≠ 0) (h1 : ¬(0 < D c d a ∧ 0 < D c d b)) (h2 : ¬(D c d a < 0 ∧ D c d b < 0)) : onP a b c := by
  have hne : ¬(D c d a = 0 ∧ D c d b = 0) := by
    rintro ⟨p, q⟩
    by_cases hcd : c = d
    · subst hcd; exact hd h0
    · exact hd (line3 hcd p q (D_right c d))
  apply Mix.on
  have i1 : (D c d a - D c d b) * c.1 = D c d a * b.1 - D c d b * a.1 := by unfold D det at *; grind
  have i2 : (D c d a - D c d b) * c.2 = D c d a * b.2 - D c d b * a.2 := by unfold D det at *; grind
  rcases (show (0 ≤ D c d a ∧ D c d b ≤ 0) ∨ (D c d a ≤ 0 ∧ 0 ≤ D c d b) by omega) with ⟨p, q⟩ | ⟨p, q⟩
  · exact ⟨-D c d b, D c d a, by omega, by omega, by omega, by grind, by grind⟩
  · exact ⟨D c d b, -D c d a, by omega, by omega, by omega, by grind, by grind⟩

instance (a b c : Int) : Decidable (btw a b c) := by unfold btw; infer_instance
instance (a b p : Pt) : Decidable (onP a b p) := by unfold onP; infer_instance
def onB (a b p : Pt) : Bool := decide (onP a b p)

/-- One more point that both segments have. -/
def bothStep (a b c d : Pt) (l : List Pt) (p : Pt) : List Pt := if (onB a b p && onB c d p) && l.all (fun q => !decide (q = p)) then l ++ [p] else l
def both (a b c d : Pt) : List Pt := [a, b, c, d].foldl (bothStep a b c d) []

def meetRef (a b c d : Pt) : Int :=
  if 1 < (both a b c d).length then 3
  else if (both a b c d).length = 1 then 2
  else if sgn (D a b c) * sgn (D a b d) < 0 ∧ sgn (D c d a) * sgn (D c d b) < 0 then 1 else 0

def lineN (a b c d : Pt) : Int :=
  if max (min (K a) (K b)) (min (K c) (K d)) < min (max (K a) (K b)) (max (K c) (K d)) then 3
  else if max (min (K a) (K b)) (min (K c) (K d)) = min (max (K a) (K b)) (max (K c) (K d)) then 2 else 0

def meetN (a b c d : Pt) : Int :=
  if D a b c = 0 ∧ D a b d = 0 ∧ D c d a = 0 ∧ D c d b = 0 then lineN a b c d
  else if 0 < sgn (D a b c) * sgn (D a b d) ∨ 0 < sgn (D c d a) * sgn (D c d b) then 0
  else if sgn (D a b c) * sgn (D a b d) < 0 ∧ sgn (D c d a) * sgn (D c d b) < 0 then 1 else 2

/-- All that lie on both. -/
def OnBoth (a b c d p : Pt) : Prop := onP a b p ∧ onP c d p

theorem bothStep_inv {a b c d : Pt} {l m : List Pt} {p : Pt} (h : ∀ q, q ∈ l ↔ q ∈ m ∧ OnBoth a b c d q) (hn : l.Nodup) :
    (∀ q, q ∈ bothStep a b c d l p ↔ q ∈ m ++ [p] ∧ OnBoth a b c d q) ∧ (bothStep a b c d l p).Nodup := by
  unfold bothStep
  by_cases h1 : onP a b p ∧ onP c d p
  · by_cases h2 : p ∈ l
    · have : l.all (fun q => !decide (q = p)) = false := by
        rw [Bool.eq_false_iff]; intro hh
        have := List.all_eq_true.1 hh p h2
        simp at this
      rw [this]
      simp only [Bool.and_false]
      refine ⟨fun q => ?_, hn⟩
      rw [if_neg (by simp)]
      rw [h, List.mem_append, List.mem_singleton]
      constructor
      · rintro ⟨x, y⟩; exact ⟨Or.inl x, y⟩
      · rintro ⟨x | x, y⟩
        · exact ⟨x, y⟩
        · subst x; exact ⟨((h _).1 h2).1, y⟩
    · have : l.all (fun q => !decide (q = p)) = true := by
        rw [List.all_eq_true]; intro q hq
        simp
        rintro rfl; exact h2 hq
      rw [this]
      have e1 : onB a b p = true := by simp [onB, h1.1]
      have e2 : onB c d p = true := by simp [onB, h1.2]
      simp only [e1, e2, Bool.and_true, if_true]
      refine ⟨fun q => ?_, ?_⟩
      · rw [List.mem_append, List.mem_append, List.mem_singleton, h]
        constructor
        · rintro (⟨x, y⟩ | x)
          · exact ⟨Or.inl x, y⟩
          · subst x; exact ⟨Or.inr rfl, h1⟩
        · rintro ⟨x | x, y⟩
          · exact Or.inl ⟨x, y⟩
          · exact Or.inr x
      · rw [List.nodup_append]
        refine ⟨hn, by simp, ?_⟩
        intro q hq r hr e
        simp at hr
        subst hr e
        exact h2 hq
  · have : (onB a b p && onB c d p) = false := by
      unfold onB
      rw [Bool.and_eq_false_iff, decide_eq_false_iff_not, decide_eq_false_iff_not]
      rcases Classical.em (onP a b p) with x | x
      · exact Or.inr fun y => h1 ⟨x, y⟩
      · exact Or.inl x
    rw [this, Bool.false_and, if_neg (by simp)]
    refine ⟨fun q => ?_, hn⟩
    rw [h, List.mem_append, List.mem_singleton]
    constructor
    · rintro ⟨x, y⟩; exact ⟨Or.inl x, y⟩
    · rintro ⟨x | x, y⟩
      · exact ⟨x, y⟩
      · subst x; exact absurd y h1

theorem both_inv (a b c d : Pt) : (∀ q, q ∈ both a b c d ↔ q ∈ [a, b, c, d] ∧ OnBoth a b c d q) ∧ (both a b c d).Nodup := by
  have h0 : ∀ q, q ∈ ([] : List Pt) ↔ q ∈ ([] : List Pt) ∧ OnBoth a b c d q := by simp
  have h1 := bothStep_inv (p := a) h0 (by simp)
  have h2 := bothStep_inv (p := b) h1.1 h1.2
  have h3 := bothStep_inv (p := c) h2.1 h2.2
  have h4 := bothStep_inv (p := d) h3.1 h3.2
  exact h4

theorem len_two {l : List Pt} {p q : Pt} (hp : p ∈ l) (hq : q ∈ l) (h : p ≠ q) : 1 < l.length := by
  match l, hp, hq with
  | [x], hp, hq => simp at hp hq; exact absurd (hp.trans hq.symm) h
  | x :: y :: l, _, _ => simp
theorem len_one {l : List Pt} {p : Pt} (hn : l.Nodup) (hp : p ∈ l) (h : ∀ q, q ∈ l → q = p) : l.length = 1 := by
  match l, hn, hp, h with
  | [x], _, _, _ => rfl
  | x :: y :: l, hn, _, h =>
    have e1 := h x (by simp)
    have e2 := h y (by simp)
    subst e1 e2
    simp at hn
theorem len_none {l : List Pt} (h : ∀ q, q ∉ l) : l.length = 0 := by
  match l, h with
  | [], _ => rfl
  | x :: l, h => exact absurd (by simp) (h x)

theorem meet_same {a b c d : Pt} (ha : CdP a) (hb : CdP b) (hc : CdP c) (hd : CdP d) : meetN a b c d = meetRef a b c d := by
  obtain ⟨hm, hn⟩ := both_inv a b c d
  unfold meetN meetRef
  by_cases hz : D a b c = 0 ∧ D a b d = 0 ∧ D c d a = 0 ∧ D c d b = 0
  · rw [if_pos hz]
    obtain ⟨z1, z2, z3, z4⟩ := hz
    have hall : ∀ q ∈ [a, b, c, d], CdP q ∧ D a b q = 0 ∧ D c d q = 0 := by
      intro q hq
      simp at hq
      rcases hq with rfl | rfl | rfl | rfl
      · exact ⟨ha, D_left _ _, z3⟩
      · exact ⟨hb, D_right _ _, z4⟩
      · exact ⟨hc, z1, D_left _ _⟩
      · exact ⟨hd, z2, D_right _ _⟩
    have hk : ∀ q, q ∈ both a b c d ↔ q ∈ [a, b, c, d] ∧ max (min (K a) (K b)) (min (K c) (K d)) ≤ K q ∧ K q ≤ min (max (K a) (K b)) (max (K c) (K d)) := by
      intro q
      rw [hm]
      constructor
      · rintro ⟨x, y1, y2⟩
        refine ⟨x, ?_⟩
        have h1 := ((holds_iff ha hb (hall q x).1).1 y1).1
        have h2 := ((holds_iff hc hd (hall q x).1).1 y2).1
        omega
      · rintro ⟨x, y⟩
        refine ⟨x, (holds_iff ha hb (hall q x).1).2 ⟨by omega, (hall q x).2.1⟩, (holds_iff hc hd (hall q x).1).2 ⟨by omega, (hall q x).2.2⟩⟩
    have e1 : ∃ p ∈ [a, b, c, d], K p = max (min (K a) (K b)) (min (K c) (K d)) := by
      rcases (show K a = max (min (K a) (K b)) (min (K c) (K d)) ∨ K b = max (min (K a) (K b)) (min (K c) (K d)) ∨ K c = max (min (K a) (K b)) (min (K c) (K d)) ∨ K d = max (min (K a) (K b)) (min (K c) (K d)) by omega) with h | h | h | h
      · exact ⟨a, by simp, h⟩
      · exact ⟨b, by simp, h⟩
      · exact ⟨c, by simp, h⟩
      · exact ⟨d, by simp, h⟩
    have e2 : ∃ p ∈ [a, b, c, d], K p = min (max (K a) (K b)) (max (K c) (K d)) := by
      rcases (show K a = min (max (K a) (K b)) (max (K c) (K d)) ∨ K b = min (max (K a) (K b)) (max (K c) (K d)) ∨ K c = min (max (K a) (K b)) (max (K c) (K d)) ∨ K d = min (max (K a) (K b)) (max (K c) (K d)) by omega) with h | h | h | h
      · exact ⟨a, by simp, h⟩
      · exact ⟨b, by simp, h⟩
      · exact ⟨c, by simp, h⟩
      · exact ⟨d, by simp, h⟩
    obtain ⟨p, p1, p2⟩ := e1
    obtain ⟨q, q1, q2⟩ := e2
    unfold lineN
    generalize max (min (K a) (K b)) (min (K c) (K d)) = F at *
    generalize min (max (K a) (K b)) (max (K c) (K d)) = L at *
    rcases Int.lt_trichotomy F L with h | h | h
    · rw [if_pos h, if_pos (len_two ((hk p).2 ⟨p1, by omega⟩) ((hk q).2 ⟨q1, by omega⟩) (by rintro rfl; omega))]
    · have : (both a b c d).length = 1 := len_one hn ((hk p).2 ⟨p1, by omega⟩) (fun r hr => by
        have := (hk r).1 hr
        exact K_inj (hall r this.1).1 (hall p p1).1 (by omega))
      rw [if_neg (by omega), if_pos h, if_neg (by omega), if_pos this]
    · have : (both a b c d).length = 0 := len_none (fun r hr => by have := (hk r).1 hr; omega)
      rw [if_neg (by omega), if_neg (by omega), if_neg (by omega), if_neg (by omega), if_neg ?_]
      rw [z1, z2]
      simp [sgn]
  · rw [if_neg hz]
    have h2 : ∀ p q, p ∈ both a b c d → q ∈ both a b c d → p = q := by
      intro p q hp hq
      have hp := ((hm p).1 hp).2
      have hq := ((hm q).1 hq).2
      apply Classical.byContradiction
      intro hne
      have same : ∀ x y : Pt, onP x y p → onP x y q → x ≠ y := by
        rintro x y h1 h2 rfl
        have a1 := h1.1; have a2 := h1.2.1; have b1 := h2.1; have b2 := h2.2.1
        unfold btw at a1 a2 b1 b2
        exact hne (pt_ext (by omega) (by omega))
      have n1 := same a b hp.1 hq.1
      have n2 := same c d hp.2 hq.2
      have la := line3 n1 hp.1.2.2 hq.1.2.2 (D_left a b)
      have lb := line3 n1 hp.1.2.2 hq.1.2.2 (D_right a b)
      have lc := line3 n2 hp.2.2.2 hq.2.2.2 (D_left c d)
      have ld := line3 n2 hp.2.2.2 hq.2.2.2 (D_right c d)
      exact hz ⟨line3 hne la lb lc, line3 hne la lb ld, line3 hne lc ld la, line3 hne lc ld lb⟩
    by_cases g1 : 0 < sgn (D a b c) * sgn (D a b d) ∨ 0 < sgn (D c d a) * sgn (D c d b)
    · rw [if_pos g1]
      have : (both a b c d).length = 0 := len_none (fun r hr => by
        have hr := ((hm r).1 hr).2
        rcases g1 with g | g
        · exact apart (sgn_mul_pos.1 g) hr.1.2.2 hr.2
        · exact apart (sgn_mul_pos.1 g) hr.2.2.2 hr.1)
      rw [if_neg (by omega), if_neg (by omega), if_neg ?_]
      omega
    · rw [if_neg g1]
      by_cases g2 : sgn (D a b c) * sgn (D a b d) < 0 ∧ sgn (D c d a) * sgn (D c d b) < 0
      · rw [if_pos g2]
        have g3 := sgn_mul_neg.1 g2.1
        have g4 := sgn_mul_neg.1 g2.2
        have : (both a b c d).length = 0 := len_none (fun r hr => by
          obtain ⟨hr0, hr⟩ := (hm r).1 hr
          have d1 := hr.1.2.2
          have d2 := hr.2.2.2
          simp at hr0
          rcases hr0 with rfl | rfl | rfl | rfl <;> omega)
        rw [if_neg (by omega), if_neg (by omega), if_pos g2]
      · rw [if_neg g2]
        have g3 : ¬(0 < sgn (D a b c) * sgn (D a b d)) := fun h => g1 (Or.inl h)
        have g4 : ¬(0 < sgn (D c d a) * sgn (D c d b)) := fun h => g1 (Or.inr h)
        rw [sgn_mul_pos] at g3 g4
        rw [sgn_mul_neg, sgn_mul_neg] at g2
        have ex : ∃ p, p ∈ both a b c d := by
          have sw : ∀ x y z : Pt, D x y z = 0 → D y x z = 0 := fun x y z h => by rw [D_swap, h]; rfl
          have hA : onP a b a := ⟨by unfold btw; omega, by unfold btw; omega, D_left _ _⟩
          have hB : onP a b b := ⟨by unfold btw; omega, by unfold btw; omega, D_right _ _⟩
          have hC : onP c d c := ⟨by unfold btw; omega, by unfold btw; omega, D_left _ _⟩
          have hD : onP c d d := ⟨by unfold btw; omega, by unfold btw; omega, D_right _ _⟩
          have key : ∀ a b c d : Pt, ¬(D a b c = 0 ∧ D a b d = 0 ∧ D c d a = 0 ∧ D c d b = 0) → ¬(0 < D c d a ∧ 0 < D c d b ∨ D c d a < 0 ∧ D c d b < 0) → D a b c = 0 → onP a b c := by
            intro a b c d hz hg h0
            apply touch (d := d) h0 _ (fun h => hg (Or.inl h)) (fun h => hg (Or.inr h))
            intro h1
            by_cases hab : a = b
            · subst hab
              apply hz
              refine ⟨h0, h1, ?_, ?_⟩ <;> omega
            · exact hz ⟨h0, h1, line3 hab h0 h1 (D_left a b), line3 hab h0 h1 (D_right a b)⟩
          rcases (show D a b c = 0 ∨ D a b d = 0 ∨ D c d a = 0 ∨ D c d b = 0 by omega) with h | h | h | h
          · exact ⟨c, (hm c).2 ⟨by simp, key a b c d hz g4 h, hC⟩⟩
          · refine ⟨d, (hm d).2 ⟨by simp, key a b d c ?_ ?_ h, hD⟩⟩
            · rw [D_swap c d a, D_swap c d b]; omega
            · rw [D_swap c d a, D_swap c d b]; omega
          · exact ⟨a, (hm a).2 ⟨by simp, hA, key c d a b (by omega) g3 h⟩⟩
          · refine ⟨b, (hm b).2 ⟨by simp, hB, key c d b a ?_ ?_ h⟩⟩
            · rw [D_swap a b c, D_swap a b d]; omega
            · rw [D_swap a b c, D_swap a b d]; omega
        obtain ⟨p, hp⟩ := ex
        have : (both a b c d).length = 1 := len_one hn hp (fun q hq => h2 q p hq hp)
        rw [if_neg (by omega), if_pos this]

end Go.Proofs.Ytgeoffpcmkofkaa
/- The walks of 'isCoord', 'checkPoints', 'Side' of package plumb. -/
namespace Go.Proofs.Ytgeoffpcmkofkaa
open Go.RowKit Fl
set_option maxRecDepth 100000

def cdB (n : Int) : Bool := decide (-9007199254740992 ≤ n) && decide (n ≤ 9007199254740992)
theorem cdB_iff {n : Int} : cdB n = true ↔ Cd n := by simp [cdB, Cd]

set_option maxHeartbeats 400000 in
theorem isCoord_any (n : Int) (w : World) : Calls Try.prog 55 #[.int .i64 n] w fun e w' => e = .returned (.bool (cdB n)) ∧ w = w' := by
  by_cases h1 : -9007199254740992 ≤ n
  · by_cases h2 : n ≤ 9007199254740992
    · have hb : cdB n = true := by simp [cdB, h1, h2]
      rw [hb]
      go_enter Try.func55, Try.ntmps55
      go_wp2
      go_ret
      exact ⟨rfl, rfl⟩
    · have hb : cdB n = false := by simp [cdB, h2]
      rw [hb]
      go_enter Try.func55, Try.ntmps55
      go_wp2
      go_ret
      exact ⟨rfl, rfl⟩
  · have hb : cdB n = false := by simp [cdB, h1]
    rw [hb]
    go_enter Try.func55, Try.ntmps55
    go_wp2
    go_ret
    exact ⟨rfl, rfl⟩

abbrev Pts := List (Int × Int)
/-- All coordinates may be. -/
def okB (l : Pts) : Bool := l.all fun p => cdB p.1 && cdB p.2
def okE (l : Pts) : Int := if okB l then 0 else 1

/-- The points lie from the cell off of block g on. -/
def PtsAt (w : World) (g off : Nat) (l : Pts) : Prop := ∀ i (h : i < l.length), w.cell? ⟨g, off + i * 2, none⟩ = some (.int .i64 l[i].1) ∧ w.cell? ⟨g, off + i * 2 + 1, none⟩ = some (.int .i64 l[i].2)

theorem PtsAt.kept {w w' : World} {g off : Nat} {l : Pts} (h : PtsAt w g off l) (hg : g < w.heap.size) (hn : New w w') : PtsAt w' g off l := by
  intro i hi
  rw [hn.rule g _ hg, hn.rule g _ hg]
  exact h i hi

theorem okB_take {l : Pts} {k : Nat} (hk : k < l.length) (h : okB (l.take k) = true) (h1 : cdB l[k].1 = true) (h2 : cdB l[k].2 = true) : okB (l.take (k + 1)) = true := by
  unfold okB at h ⊢
  rw [List.take_succ_eq_append_getElem hk, List.all_append, h]
  simp [h1, h2]

theorem okB_bad {l : Pts} {k : Nat} (hk : k < l.length) (h : cdB l[k].1 = false ∨ cdB l[k].2 = false) : okB l = false := by
  rw [Bool.eq_false_iff]
  intro hh
  have := List.all_eq_true.1 hh l[k] (List.getElem_mem hk)
  simp at this
  rcases h with h | h <;> simp [h] at this

set_option maxHeartbeats 800000 in
theorem checkPoints_len (g off cap : Nat) (l : Pts) (w : World) (h : PtsAt w g off l) (hg : g < w.heap.size) (hs : l.length ≤ 100000000000000) :
    Calls Try.prog 36 #[.slice (some ⟨g, off, none⟩) l.length cap] w fun e w' => e = .returned (.int .i64 (okE l)) ∧ Hid (New w w') := by
  go_enter Try.func36, Try.ntmps36
  go_wp2_with fail
  go_loopw [7] (fun i wr => ∃ k : Nat, i = .int .i64 k ∧ k ≤ l.length ∧ Hid (New w wr ∧ okB (l.take k) = true))
    (fun i _ => l.length - (intOf i).toNat)
  case atStart => exact ⟨0, rfl, Nat.zero_le _, New.refl _, rfl⟩
  case round =>
    obtain ⟨k, rfl, hle, H⟩ := hrel
    by_cases hk : k < l.length
    · have hc1 := ((h.kept hg H.out.1) k hk).1
      have hc2 := ((h.kept hg H.out.1) k hk).2
      go_wp2_with fail
      refine (isCoord_any l[k].1 _).mono ?_
      rintro e w1 ⟨rfl, rfl⟩
      cases hb1 : cdB l[k].1 with
      | false =>
        go_wp2_with fail
        go_ret
        exact ⟨by rw [okE, okB_bad hk (Or.inl hb1)]; rfl, H.out.1.alloc' _⟩
      | true =>
        go_wp2_with fail
        refine (isCoord_any l[k].2 _).mono ?_
        rintro e w1 ⟨rfl, rfl⟩
        cases hb2 : cdB l[k].2 with
        | false =>
          go_wp2_with fail
          go_ret
          exact ⟨by rw [okE, okB_bad hk (Or.inr hb2)]; rfl, H.out.1.alloc' _⟩
        | true =>
          go_wp2_with fail
          go_roundw
          case rel => exact ⟨k + 1, by go_num, hk, H.out.1.alloc' _, okB_take hk H.out.2 hb1 hb2⟩
          case measure => simp [intOf]; omega
    · have hk2 : k = l.length := by omega
      subst hk2
      have hok : okB l = true := by have := H.out.2; rwa [List.take_length] at this
      have HO : Hid (okB l = true) := hok
      clear hok
      go_wp2_with fail
      go_ret
      exact ⟨by rw [okE, HO.out]; rfl, H.out.1⟩
theorem checkPoints_any (g off cap : Nat) (l : Pts) (w : World) (h : PtsAt w g off l) (hg : g < w.heap.size) (hc : l.length ≤ cap) (hs : cap ≤ 100000000000000) :
    Calls Try.prog 36 #[.slice (some ⟨g, off, none⟩) l.length cap] w fun e w' => e = .returned (.int .i64 (okE l)) ∧ Hid (New w w') := checkPoints_len g off cap l w h hg (by omega)

/-- Points written out. -/
theorem ptsAt3 {w : World} {g : Nat} {ax ay bx by' cx cy : Int} (h : w.heap[g]? = some (.cells #[.int .i64 ax, .int .i64 ay, .int .i64 bx, .int .i64 by', .int .i64 cx, .int .i64 cy] 23 (0, 0))) : PtsAt w g 0 [(ax, ay), (bx, by'), (cx, cy)] := by
  intro i hi
  rw [cell_of_row w g _ _ 23 (0, 0) h, cell_of_row w g _ _ 23 (0, 0) h]
  match i, hi with
  | 0, _ => exact ⟨rfl, rfl⟩
  | 1, _ => exact ⟨rfl, rfl⟩
  | 2, _ => exact ⟨rfl, rfl⟩

theorem ptsAt4 {w : World} {g : Nat} {ax ay bx by' cx cy dx dy : Int} (h : w.heap[g]? = some (.cells #[.int .i64 ax, .int .i64 ay, .int .i64 bx, .int .i64 by', .int .i64 cx, .int .i64 cy, .int .i64 dx, .int .i64 dy] 23 (0, 0))) : PtsAt w g 0 [(ax, ay), (bx, by'), (cx, cy), (dx, dy)] := by
  intro i hi
  rw [cell_of_row w g _ _ 23 (0, 0) h, cell_of_row w g _ _ 23 (0, 0) h]
  match i, hi with
  | 0, _ => exact ⟨rfl, rfl⟩
  | 1, _ => exact ⟨rfl, rfl⟩
  | 2, _ => exact ⟨rfl, rfl⟩
  | 3, _ => exact ⟨rfl, rfl⟩

theorem okB_cd {l : Pts} (h : okB l = true) {p : Int × Int} (hp : p ∈ l) : Cd p.1 ∧ Cd p.2 := by
  have := List.all_eq_true.1 h p hp
  simp only [Bool.and_eq_true] at this
  exact ⟨cdB_iff.1 this.1, cdB_iff.1 this.2⟩

theorem check3 (ax ay bx by' cx cy : Int) (W : World) (g : Nat) (hg : g = W.heap.size) :
    Calls Try.prog 36 #[.slice (some ⟨g, 0, none⟩) 3 3] (W.alloc (.cells #[.int .i64 ax, .int .i64 ay, .int .i64 bx, .int .i64 by', .int .i64 cx, .int .i64 cy] 23)) fun e w' =>
      e = .returned (.int .i64 (okE [(ax, ay), (bx, by'), (cx, cy)])) ∧ Hid (New W w') := by
  subst hg
  refine (checkPoints_any W.heap.size 0 3 [(ax, ay), (bx, by'), (cx, cy)] _ (ptsAt3 (_root_.Go.heap_alloc_new W _)) (by simp) (by simp) (by omega)).mono ?_
  rintro e w1 ⟨rfl, H1⟩
  exact ⟨rfl, (New.alloc W _).trans' H1.out⟩

theorem check4 (ax ay bx by' cx cy dx dy : Int) (W : World) (g : Nat) (hg : g = W.heap.size) :
    Calls Try.prog 36 #[.slice (some ⟨g, 0, none⟩) 4 4] (W.alloc (.cells #[.int .i64 ax, .int .i64 ay, .int .i64 bx, .int .i64 by', .int .i64 cx, .int .i64 cy, .int .i64 dx, .int .i64 dy] 23)) fun e w' =>
      e = .returned (.int .i64 (okE [(ax, ay), (bx, by'), (cx, cy), (dx, dy)])) ∧ Hid (New W w') := by
  subst hg
  refine (checkPoints_any W.heap.size 0 4 [(ax, ay), (bx, by'), (cx, cy), (dx, dy)] _ (ptsAt4 (_root_.Go.heap_alloc_new W _)) (by simp) (by simp) (by omega)).mono ?_
  rintro e w1 ⟨rfl, H1⟩
  exact ⟨rfl, (New.alloc W _).trans' H1.out⟩

set_option maxHeartbeats 800000 in
theorem side_ok (ax ay bx by' cx cy : Int) (w : World) (hok : okB [(ax, ay), (bx, by'), (cx, cy)] = true) :
    Calls Try.prog 11 #[.agg #[.int .i64 ax, .int .i64 ay], .agg #[.int .i64 bx, .int .i64 by'], .agg #[.int .i64 cx, .int .i64 cy]] w fun e w' =>
      e = .returned (.tuple #[.int .i64 (sgn (det ax ay bx by' cx cy)), .int .i64 0]) ∧ Hid (New w w') := by
  have HO : Hid (okE [(ax, ay), (bx, by'), (cx, cy)] = 0 ∧ (Cd ax ∧ Cd ay) ∧ (Cd bx ∧ Cd by') ∧ (Cd cx ∧ Cd cy)) := ⟨by rw [okE, hok]; rfl, okB_cd hok (p := (ax, ay)) (by simp), okB_cd hok (p := (bx, by')) (by simp), okB_cd hok (p := (cx, cy)) (by simp)⟩
  clear hok
  go_enter Try.func11, Try.ntmps11
  go_wp2_with fail
  refine (check3 ax ay bx by' cx cy _ _ (by simp)).mono ?_
  rintro e w1 ⟨rfl, H1⟩
  have r1 := H1.out.rule
  have hE := HO.out.1
  go_wp2_with fail
  refine (of_any ax ay bx by' cx cy _ HO.out.2.1.1 HO.out.2.1.2 HO.out.2.2.1.1 HO.out.2.2.1.2 HO.out.2.2.2.1 HO.out.2.2.2.2).mono ?_
  rintro e w2 ⟨rfl, H2⟩
  clear r1
  go_wp2_with fail
  go_ret2
  exact ⟨rfl, ((((New.alloc _ _).alloc' _).alloc' _).trans' H1.out).trans' H2.out⟩

set_option maxHeartbeats 800000 in
theorem side_bad (ax ay bx by' cx cy : Int) (w : World) (hok : okB [(ax, ay), (bx, by'), (cx, cy)] = false) :
    Calls Try.prog 11 #[.agg #[.int .i64 ax, .int .i64 ay], .agg #[.int .i64 bx, .int .i64 by'], .agg #[.int .i64 cx, .int .i64 cy]] w fun e w' =>
      e = .returned (.tuple #[.int .i64 0, .int .i64 1]) ∧ Hid (New w w') := by
  have HO : Hid (okE [(ax, ay), (bx, by'), (cx, cy)] = 1) := by rw [Hid, okE, hok]; rfl
  clear hok
  go_enter Try.func11, Try.ntmps11
  go_wp2_with fail
  refine (check3 ax ay bx by' cx cy _ _ (by simp)).mono ?_
  rintro e w1 ⟨rfl, H1⟩
  have hE := HO.out
  go_wp2_with fail
  go_ret2
  exact ⟨rfl, (((New.alloc _ _).alloc' _).alloc' _).trans' H1.out⟩

end Go.Proofs.Ytgeoffpcmkofkaa
/- The walks of package order, with 'Compare' and 'Or' of package cmp. -/
namespace Go.Proofs.Ytgeoffpcmkofkaa
open Go.RowKit Fl
set_option maxRecDepth 100000
attribute [local go_sem ↓] Go.wp_at_zero Go.wp_at_succ

set_option maxHeartbeats 400000 in
theorem isNaN_any (x : Int) (w : World) : Calls Try.prog 106 #[.int .i64 x] w fun e w' => e = .returned (.bool false) ∧ w = w' := by
  go_enter Try.func106, Try.ntmps106
  go_wp2_with fail
  go_ret
  exact ⟨rfl, rfl⟩

set_option maxHeartbeats 800000 in
theorem cmpInt_any (x y : Int) (w : World) : Calls Try.prog 99 #[.int .i64 x, .int .i64 y] w fun e w' => e = .returned (.int .i64 (sgn (x - y))) ∧ w = w' := by
  have HS : Hid ((x < y ∧ sgn (x - y) = -1) ∨ (x = y ∧ sgn (x - y) = 0) ∨ (y < x ∧ sgn (x - y) = 1)) := by
    rcases sgn_cases (x - y) with h | h | h
    · exact Or.inl ⟨by omega, h.2⟩
    · exact Or.inr (Or.inl ⟨by omega, h.2⟩)
    · exact Or.inr (Or.inr ⟨by omega, h.2⟩)
  go_enter Try.func99, Try.ntmps99
  go_wp2_with fail
  refine (isNaN_any x _).mono ?_
  rintro e w1 ⟨rfl, rfl⟩
  go_wp2_with fail
  refine (isNaN_any y _).mono ?_
  rintro e w1 ⟨rfl, rfl⟩
  rcases HS.out with ⟨h, e⟩ | ⟨h, e⟩ | ⟨h, e⟩
  · have HE : Hid (sgn (x - y) = -1) := e
    clear HS e
    go_wp2_with fail
    go_ret
    exact ⟨by rw [HE.out]; rfl, rfl⟩
  · have HE : Hid (sgn (x - y) = 0) := e
    clear HS e
    have h1 : x ≤ y := by omega
    have h2 : y ≤ x := by omega
    clear h
    go_wp2_with fail
    go_ret
    exact ⟨by rw [HE.out]; rfl, rfl⟩
  · have HE : Hid (sgn (x - y) = 1) := e
    clear HS e
    go_wp2_with fail
    go_ret
    exact ⟨by rw [HE.out]; rfl, rfl⟩

def orI (s t : Int) : Int := if s = 0 then t else s

set_option maxHeartbeats 800000 in
theorem or2 (s t : Int) (g : Nat) (V : World) (c0 : V.cell? ⟨g, 0, none⟩ = some (.int .i64 s)) (c1 : V.cell? ⟨g, 1, none⟩ = some (.int .i64 t)) :
    Calls Try.prog 98 #[.slice (some ⟨g, 0, none⟩) 2 2] V fun e w' => e = .returned (.int .i64 (orI s t)) ∧ V = w' := by
  have HS : Hid ((s = 0 → orI s t = t) ∧ (s ≠ 0 → orI s t = s)) := ⟨fun h => by rw [orI, if_pos h], fun h => by rw [orI, if_neg h]⟩
  go_enter Try.func98, Try.ntmps98
  go_wp2_with fail
  go_loop [8] (fun i => ∃ k : Nat, i = .int .i64 k ∧ k ≤ 2 ∧ Hid ((1 ≤ k → s = 0) ∧ (2 ≤ k → t = 0)))
    (fun i => 2 - (intOf i).toNat)
  case atStart => exact ⟨0, rfl, Nat.zero_le _, fun h => by omega, fun h => by omega⟩
  case round =>
    obtain ⟨k, rfl, hle, H⟩ := hrel
    rcases (show k = 0 ∨ k = 1 ∨ k = 2 by omega) with rfl | rfl | rfl
    · by_cases hs : s = 0
      · have HS0 : Hid (s = 0) := hs
        go_wp2_with fail
        go_round
        case rel => exact ⟨1, rfl, by omega, fun _ => HS0.out, fun h => by omega⟩
        case measure => simp [intOf]
      · have HE : Hid (orI s t = s) := HS.out.2 hs
        go_wp2_with fail
        go_ret
        exact ⟨by rw [HE.out]; rfl, rfl⟩
    · by_cases hs : t = 0
      · have HS0 : Hid (t = 0) := hs
        go_wp2_with fail
        go_round
        case rel => exact ⟨2, rfl, by omega, fun _ => H.out.1 (by omega), fun _ => HS0.out⟩
        case measure => simp [intOf]
      · have HE : Hid (orI s t = t) := HS.out.1 (H.out.1 (by omega))
        go_wp2_with fail
        go_ret
        exact ⟨by rw [HE.out]; rfl, rfl⟩
    · have HE : Hid (orI s t = 0) := by rw [Hid, HS.out.1 (H.out.1 (by omega)), H.out.2 (by omega)]
      go_wp2_with fail
      go_ret
      exact ⟨by rw [HE.out]; rfl, rfl⟩

/-- The order of points. -/
def cmpP (a b : Pt) : Int := orI (sgn (a.1 - b.1)) (sgn (a.2 - b.2))
theorem cmpP_eq {a b : Pt} (ha : CdP a) (hb : CdP b) : cmpP a b = sgn (K a - K b) := by
  obtain ⟨⟨p, q⟩, r, t⟩ := ha
  obtain ⟨⟨p', q'⟩, r', t'⟩ := hb
  unfold cmpP orI
  rcases sgn_cases (a.1 - b.1) with ⟨h, e⟩ | ⟨h, e⟩ | ⟨h, e⟩
  · rw [e, if_neg (by omega)]
    rcases sgn_cases (K a - K b) with ⟨h', e'⟩ | ⟨h', e'⟩ | ⟨h', e'⟩ <;> unfold K at h' <;> omega
  · rw [e, if_pos rfl]
    congr 1
    unfold K
    omega
  · rw [e, if_neg (by omega)]
    rcases sgn_cases (K a - K b) with ⟨h', e'⟩ | ⟨h', e'⟩ | ⟨h', e'⟩ <;> unfold K at h' <;> omega

set_option maxHeartbeats 800000 in
theorem compare_any (ax ay bx by' : Int) (w : World) :
    Calls Try.prog 85 #[.agg #[.int .i64 ax, .int .i64 ay], .agg #[.int .i64 bx, .int .i64 by']] w fun e w' => e = .returned (.int .i64 (cmpP (ax, ay) (bx, by'))) ∧ Hid (New w w') := by
  go_enter Try.func85, Try.ntmps85
  go_wp2_with fail
  obtain ⟨W, hW⟩ : ∃ W, W = (w.alloc (.cells #[.int .i64 ax, .int .i64 ay] 23)).alloc (.cells #[.int .i64 bx, .int .i64 by'] 23) := ⟨_, rfl⟩
  have HW : Hid (New w W ∧ W.heap.size = w.heap.size + 2) := by rw [hW]; exact ⟨(New.alloc _ _).alloc' _, by simp⟩
  have a0 : W.cell? ⟨w.heap.size, 0, none⟩ = some (.int .i64 ax) := by rw [hW]; go_simp
  have a1 : W.cell? ⟨w.heap.size, 1, none⟩ = some (.int .i64 ay) := by rw [hW]; go_simp
  have b0 : W.cell? ⟨w.heap.size + 1, 0, none⟩ = some (.int .i64 bx) := by rw [hW]; go_simp
  have b1 : W.cell? ⟨w.heap.size + 1, 1, none⟩ = some (.int .i64 by') := by rw [hW]; go_simp
  rw [← hW]
  clear hW
  have F1 : Hid (0 ≤ 0) := Nat.le_refl _
  go_region_held3 (fun w' => w'.cell? ⟨w.heap.size, 0, none⟩ = some (.int .i64 ax) ∧ w'.cell? ⟨w.heap.size, 1, none⟩ = some (.int .i64 ay) ∧ w'.cell? ⟨w.heap.size + 1, 0, none⟩ = some (.int .i64 bx) ∧ w'.cell? ⟨w.heap.size + 1, 1, none⟩ = some (.int .i64 by'))
    (first
      | go_keep)
    (first
      | (go_at_call 99; clear F1; refine (cmpInt_any ax bx _).mono ?_; rintro e w1 ⟨rfl, rfl⟩)
      | (go_at_call 99; refine (cmpInt_any ay by' _).mono ?_; rintro e w1 ⟨rfl, rfl⟩)
      | (go_at_call 98; refine (or2 (sgn (ax - bx)) (sgn (ay - by')) W.heap.size _ (by go_simp) (by go_simp)).mono ?_; rintro e w1 ⟨rfl, rfl⟩))
  go_wp2_with fail
  go_ret
  exact ⟨rfl, (HW.out.1.alloc' _).drewN 1⟩

end Go.Proofs.Ytgeoffpcmkofkaa
/- The orders by which is sorted: of points, of directed sides, of triangles; worlds that have but grown. -/
namespace Go.Proofs.Ytgeoffpcmkofkaa
open Go.RowKit Fl Go.Sort
set_option maxRecDepth 100000
attribute [local go_sem ↓] Go.wp_at_zero Go.wp_at_succ

/-- Nothing but draws and new blocks. -/
def Gr (w w' : World) : Prop := ∃ q os, w' = grow (w.drewN q) os
theorem Gr.refl (w : World) : Gr w w := ⟨0, #[], by simp [World.drewN]⟩
theorem Gr.al {w w' : World} (h : Gr w w') (o : Obj) : Gr w (w'.alloc o) := by
  obtain ⟨q, os, rfl⟩ := h
  exact ⟨q, os.push o, by simp [grow, World.alloc]⟩
theorem Gr.dr {w w' : World} (h : Gr w w') : Gr w w'.drew := by
  obtain ⟨q, os, rfl⟩ := h
  exact ⟨q + 1, os, by simp [grow, World.drewN, World.drew]; omega⟩
theorem Gr.trans {w w' w'' : World} (h : Gr w w') (h' : Gr w' w'') : Gr w w'' := by
  obtain ⟨q, os, rfl⟩ := h
  obtain ⟨q', os', rfl⟩ := h'
  exact ⟨q + q', os ++ os', by simp [grow, World.drewN, Array.append_assoc]; omega⟩
theorem Gr.new {w w' : World} (h : Gr w w') : New w w' := by
  obtain ⟨q, os, rfl⟩ := h
  exact ⟨rfl, rfl, rfl, by simp [grow, World.drewN], fun k hk _ => by simp [grow, World.drewN, Array.getElem?_append_left hk]⟩

set_option maxHeartbeats 800000 in
theorem compare_gr (ax ay bx by' : Int) (w : World) :
    Calls Try.prog 85 #[.agg #[.int .i64 ax, .int .i64 ay], .agg #[.int .i64 bx, .int .i64 by']] w fun e w' => e = .returned (.int .i64 (cmpP (ax, ay) (bx, by'))) ∧ Hid (Gr w w') := by
  go_enter Try.func85, Try.ntmps85
  go_wp2_with fail
  obtain ⟨W, hW⟩ : ∃ W, W = (w.alloc (.cells #[.int .i64 ax, .int .i64 ay] 23)).alloc (.cells #[.int .i64 bx, .int .i64 by'] 23) := ⟨_, rfl⟩
  have HW : Hid (Gr w W ∧ W.heap.size = w.heap.size + 2) := by rw [hW]; exact ⟨((Gr.refl w).al _).al _, by simp⟩
  have a0 : W.cell? ⟨w.heap.size, 0, none⟩ = some (.int .i64 ax) := by rw [hW]; go_simp
  have a1 : W.cell? ⟨w.heap.size, 1, none⟩ = some (.int .i64 ay) := by rw [hW]; go_simp
  have b0 : W.cell? ⟨w.heap.size + 1, 0, none⟩ = some (.int .i64 bx) := by rw [hW]; go_simp
  have b1 : W.cell? ⟨w.heap.size + 1, 1, none⟩ = some (.int .i64 by') := by rw [hW]; go_simp
  rw [← hW]
  clear hW
  have F1 : Hid (0 ≤ 0) := Nat.le_refl _
  go_region_held3 (fun w' => w'.cell? ⟨w.heap.size, 0, none⟩ = some (.int .i64 ax) ∧ w'.cell? ⟨w.heap.size, 1, none⟩ = some (.int .i64 ay) ∧ w'.cell? ⟨w.heap.size + 1, 0, none⟩ = some (.int .i64 bx) ∧ w'.cell? ⟨w.heap.size + 1, 1, none⟩ = some (.int .i64 by'))
    (first
      | go_keep)
    (first
      | (go_at_call 99; clear F1; refine (cmpInt_any ax bx _).mono ?_; rintro e w1 ⟨rfl, rfl⟩)
      | (go_at_call 99; refine (cmpInt_any ay by' _).mono ?_; rintro e w1 ⟨rfl, rfl⟩)
      | (go_at_call 98; refine (or2 (sgn (ax - bx)) (sgn (ay - by')) W.heap.size _ (by go_simp) (by go_simp)).mono ?_; rintro e w1 ⟨rfl, rfl⟩))
  go_wp2_with fail
  go_ret
  exact ⟨rfl, (HW.out.1.al _).dr⟩

end Go.Proofs.Ytgeoffpcmkofkaa
/- The library's sort by a comparison, at points, triangles and directed sides: where its functions and types stand in this program. -/
namespace Go.Proofs.Ytgeoffpcmkofkaa
open Go.Shelf
def Try.sortP_ren : Go.Shelf.Ren := ⟨fun | 6 => 101 | 15 => 108 | 14 => 107 | 28 => 117 | 29 => 118 | 20 => 109 | 21 => 110 | 22 => 111 | 23 => 112 | 24 => 113 | 25 => 114 | 26 => 115 | 27 => 116 | 46 => 119 | 47 => 120 | 48 => 121 | 49 => 122 | 50 => 123 | 57 => 124 | n => n, fun | 22 => 28 | 24 => 23 | 25 => 102 | 3 => 3 | 39 => 125 | 0 => 0 | 53 => 134 | 55 => 111 | 4 => 4 | 46 => 128 | 45 => 127 | 50 => 70 | 5 => 5 | 9 => 9 | 66 => 136 | 70 => 140 | 76 => 142 | 77 => 143 | n => n, fun | n => n⟩
theorem Try.sortP : Go.Proofs.SlLaysF0.n6 Try.prog Try.sortP_ren := {
  mixed := by kernel_rfl
  f6 := ⟨Try.f101.name, by decide, Try.func101.trans (congrArg some (by kernel_rfl))⟩
  f14 := ⟨Try.f107.name, by decide, Try.func107.trans (congrArg some (by kernel_rfl))⟩
  f15 := Try.func108.trans (congrArg some (by kernel_rfl))
  f20 := ⟨Try.f109.name, by decide, Try.func109.trans (congrArg some (by kernel_rfl))⟩
  f21 := ⟨Try.f110.name, by decide, Try.func110.trans (congrArg some (by kernel_rfl))⟩
  f22 := ⟨Try.f111.name, by decide, Try.func111.trans (congrArg some (by kernel_rfl))⟩
  f23 := ⟨Try.f112.name, by decide, Try.func112.trans (congrArg some (by kernel_rfl))⟩
  f24 := ⟨Try.f113.name, by decide, Try.func113.trans (congrArg some (by kernel_rfl))⟩
  f25 := ⟨Try.f114.name, by decide, Try.func114.trans (congrArg some (by kernel_rfl))⟩
  f26 := ⟨Try.f115.name, by decide, Try.func115.trans (congrArg some (by kernel_rfl))⟩
  f27 := ⟨Try.f116.name, by decide, Try.func116.trans (congrArg some (by kernel_rfl))⟩
  f28 := Try.func117.trans (congrArg some (by kernel_rfl))
  f29 := Try.func118.trans (congrArg some (by kernel_rfl))
  f46 := ⟨Try.f119.name, by decide, Try.func119.trans (congrArg some (by kernel_rfl))⟩
  f47 := Try.func120.trans (congrArg some (by kernel_rfl))
  f48 := Try.func121.trans (congrArg some (by kernel_rfl))
  f49 := ⟨Try.f122.name, by decide, Try.func122.trans (congrArg some (by kernel_rfl))⟩
  f50 := ⟨Try.f123.name, by decide, Try.func123.trans (congrArg some (by kernel_rfl))⟩
  f57 := ⟨Try.f124.name, by decide, Try.func124.trans (congrArg some (by kernel_rfl))⟩
  t0 := Try.underlying0
  a0 := Try.isAgg0
  z0 := Try.sizeOf0
  v0 := Try.zeroValue0
  t3 := Try.underlying3
  a3 := Try.isAgg3
  z3 := Try.sizeOf3
  v3 := Try.zeroValue3
  t4 := Try.underlying4
  a4 := Try.isAgg4
  z4 := Try.sizeOf4
  v4 := Try.zeroValue4
  t5 := Try.underlying5
  a5 := Try.isAgg5
  z5 := Try.sizeOf5
  v5 := Try.zeroValue5
  t9 := Try.underlying9
  a9 := Try.isAgg9
  z9 := Try.sizeOf9
  v9 := Try.zeroValue9
  t22 := Try.underlying28
  a22 := Try.isAgg28
  z22 := Try.sizeOf28
  v22 := Try.zeroValue28
  t25 := Try.underlying102
  a25 := Try.isAgg102
  z25 := Try.sizeOf102
  v25 := Try.zeroValue102
  t39 := Try.underlying125
  a39 := Try.isAgg125
  z39 := Try.sizeOf125
  v39 := Try.zeroValue125
  t45 := Try.underlying127
  a45 := Try.isAgg127
  z45 := Try.sizeOf127
  v45 := Try.zeroValue127
  t46 := Try.underlying128
  a46 := Try.isAgg128
  z46 := Try.sizeOf128
  v46 := Try.zeroValue128
  t50 := Try.underlying70
  a50 := Try.isAgg70
  z50 := Try.sizeOf70
  v50 := Try.zeroValue70
  t53 := Try.underlying134
  a53 := Try.isAgg134
  z53 := Try.sizeOf134
  v53 := Try.zeroValue134
  t55 := Try.underlying111
  a55 := Try.isAgg111
  z55 := Try.sizeOf111
  v55 := Try.zeroValue111
  t66 := Try.underlying136
  a66 := Try.isAgg136
  z66 := Try.sizeOf136
  v66 := Try.zeroValue136
  t70 := Try.underlying140
  a70 := Try.isAgg140
  z70 := Try.sizeOf140
  v70 := Try.zeroValue140
  t76 := Try.underlying142
  a76 := Try.isAgg142
  z76 := Try.sizeOf142
  v76 := Try.zeroValue142
  t77 := Try.underlying143
  a77 := Try.isAgg143
  z77 := Try.sizeOf143
  v77 := Try.zeroValue143 }
end Go.Proofs.Ytgeoffpcmkofkaa
/- The walk of 'Sorted' of package order. -/
namespace Go.Proofs.Ytgeoffpcmkofkaa
open Go.RowKit Fl
set_option maxRecDepth 100000
attribute [local go_sem ↓] Go.wp_at_zero Go.wp_at_succ

theorem set_other {W : World} {b k i o : Nat} {x : Value} (h : k ≠ b) : (W.setCell ⟨b, i, none⟩ x).cell? ⟨k, o, none⟩ = W.cell? ⟨k, o, none⟩ :=
  World.cell?_of_block (a := ⟨k, o, none⟩) (heap_setCell_other W ⟨b, i, none⟩ k x h)
theorem New.set {w w1 : World} (h : New w w1) {b o : Nat} (hb : w.heap.size ≤ b) (x : Value) : New w (w1.setCell ⟨b, o, none⟩ x) :=
  Below.new' ((New.below' h).setCell (p := ⟨b, o, none⟩) hb x)
theorem drew_cell {W : World} {a : Addr} : W.drew.cell? a = W.cell? a := rfl

set_option maxHeartbeats 800000 in
theorem sorted_yes (ax ay bx by' : Int) (w : World) (h : 0 < cmpP (ax, ay) (bx, by')) :
    Calls Try.prog 84 #[.agg #[.int .i64 ax, .int .i64 ay], .agg #[.int .i64 bx, .int .i64 by']] w fun e w' => e = .returned (.tuple #[.agg #[.int .i64 bx, .int .i64 by'], .agg #[.int .i64 ax, .int .i64 ay]]) ∧ Hid (New w w') := by
  go_enter Try.func84, Try.ntmps84
  go_wp2_with fail
  refine (compare_any ax ay bx by' _).mono ?_
  rintro e w1 ⟨rfl, H1⟩
  have HW : Hid (New w w1) := ((((New.alloc _ _).alloc' _).alloc' _).alloc' _).trans' H1.out
  have a0 : w1.cell? ⟨w.heap.size, 0, none⟩ = some (.int .i64 ax) := by rw [H1.out.rule _ _ (by simp; omega)]; go_simp
  have a1 : w1.cell? ⟨w.heap.size, 1, none⟩ = some (.int .i64 ay) := by rw [H1.out.rule _ _ (by simp; omega)]; go_simp
  have b0 : w1.cell? ⟨w.heap.size + 1, 0, none⟩ = some (.int .i64 bx) := by rw [H1.out.rule _ _ (by simp)]; go_simp
  have b1 : w1.cell? ⟨w.heap.size + 1, 1, none⟩ = some (.int .i64 by') := by rw [H1.out.rule _ _ (by simp)]; go_simp
  have u0 : w1.cell? ⟨w.heap.size + 1 + 1, 0, none⟩ = some (.int .i64 0) := by rw [H1.out.rule _ _ (by simp)]; go_simp
  have u1 : w1.cell? ⟨w.heap.size + 1 + 1, 1, none⟩ = some (.int .i64 0) := by rw [H1.out.rule _ _ (by simp)]; go_simp
  have v0 : w1.cell? ⟨w.heap.size + 1 + 1 + 1, 0, none⟩ = some (.int .i64 0) := by rw [H1.out.rule _ _ (by simp)]; go_simp
  have v1 : w1.cell? ⟨w.heap.size + 1 + 1 + 1, 1, none⟩ = some (.int .i64 0) := by rw [H1.out.rule _ _ (by simp)]; go_simp
  have fu : ∀ o, w1.frozen? ⟨w.heap.size + 1 + 1, o, none⟩ = false := fun o => by rw [H1.out.frule' _ _ (by simp)]; go_simp
  have fv : ∀ o, w1.frozen? ⟨w.heap.size + 1 + 1 + 1, o, none⟩ = false := fun o => by rw [H1.out.frule' _ _ (by simp)]; go_simp
  clear H1
  have n1 : w.heap.size ≠ w.heap.size + 1 + 1 := by omega
  have n2 : w.heap.size ≠ w.heap.size + 1 + 1 + 1 := by omega
  have n3 : w.heap.size + 1 ≠ w.heap.size + 1 + 1 := by omega
  have n4 : w.heap.size + 1 ≠ w.heap.size + 1 + 1 + 1 := by omega
  have n5 : w.heap.size + 1 + 1 ≠ w.heap.size + 1 + 1 + 1 := by omega
  have HB : Hid (w.heap.size ≤ w.heap.size + 1 + 1 ∧ w.heap.size ≤ w.heap.size + 1 + 1 + 1) := ⟨by omega, by omega⟩
  go_wp2_with fail
  generalize w.heap.size + 1 + 1 + 1 = B3 at *
  generalize w.heap.size + 1 + 1 = B2 at *
  go_region_held3 (fun w' => w'.cell? ⟨w.heap.size, 0, none⟩ = some (.int .i64 ax) ∧ w'.cell? ⟨w.heap.size, 1, none⟩ = some (.int .i64 ay) ∧ w'.cell? ⟨w.heap.size + 1, 0, none⟩ = some (.int .i64 bx) ∧ w'.cell? ⟨w.heap.size + 1, 1, none⟩ = some (.int .i64 by'))
    (first
      | (simp only [drew_cell, set_other n1, set_other n2, set_other n3, set_other n4]; exact ⟨a0, a1, b0, b1⟩)
      | go_keep)
    (first
      | fail)
  go_wp2_with fail
  refine bodyPost_ret (v := .tuple #[.agg #[.int .i64 bx, .int .i64 by'], .agg #[.int .i64 ax, .int .i64 ay]]) (by simp [results, Try.results84, go_sem, u0, u1, v0, v1]) rfl ?_
  exact ⟨rfl, ((((HW.out.set HB.out.1 _).set HB.out.1 _).set HB.out.2 _).set HB.out.2 _).drewN 1⟩

set_option maxHeartbeats 800000 in
theorem sorted_no (ax ay bx by' : Int) (w : World) (h : cmpP (ax, ay) (bx, by') ≤ 0) :
    Calls Try.prog 84 #[.agg #[.int .i64 ax, .int .i64 ay], .agg #[.int .i64 bx, .int .i64 by']] w fun e w' => e = .returned (.tuple #[.agg #[.int .i64 ax, .int .i64 ay], .agg #[.int .i64 bx, .int .i64 by']]) ∧ Hid (New w w') := by
  go_enter Try.func84, Try.ntmps84
  go_wp2_with fail
  refine (compare_any ax ay bx by' _).mono ?_
  rintro e w1 ⟨rfl, H1⟩
  have HW : Hid (New w w1) := ((((New.alloc _ _).alloc' _).alloc' _).alloc' _).trans' H1.out
  have a0 : w1.cell? ⟨w.heap.size, 0, none⟩ = some (.int .i64 ax) := by rw [H1.out.rule _ _ (by simp; omega)]; go_simp
  have a1 : w1.cell? ⟨w.heap.size, 1, none⟩ = some (.int .i64 ay) := by rw [H1.out.rule _ _ (by simp; omega)]; go_simp
  have b0 : w1.cell? ⟨w.heap.size + 1, 0, none⟩ = some (.int .i64 bx) := by rw [H1.out.rule _ _ (by simp)]; go_simp
  have b1 : w1.cell? ⟨w.heap.size + 1, 1, none⟩ = some (.int .i64 by') := by rw [H1.out.rule _ _ (by simp)]; go_simp
  have u0 : w1.cell? ⟨w.heap.size + 1 + 1, 0, none⟩ = some (.int .i64 0) := by rw [H1.out.rule _ _ (by simp)]; go_simp
  have u1 : w1.cell? ⟨w.heap.size + 1 + 1, 1, none⟩ = some (.int .i64 0) := by rw [H1.out.rule _ _ (by simp)]; go_simp
  have v0 : w1.cell? ⟨w.heap.size + 1 + 1 + 1, 0, none⟩ = some (.int .i64 0) := by rw [H1.out.rule _ _ (by simp)]; go_simp
  have v1 : w1.cell? ⟨w.heap.size + 1 + 1 + 1, 1, none⟩ = some (.int .i64 0) := by rw [H1.out.rule _ _ (by simp)]; go_simp
  have fu : ∀ o, w1.frozen? ⟨w.heap.size + 1 + 1, o, none⟩ = false := fun o => by rw [H1.out.frule' _ _ (by simp)]; go_simp
  have fv : ∀ o, w1.frozen? ⟨w.heap.size + 1 + 1 + 1, o, none⟩ = false := fun o => by rw [H1.out.frule' _ _ (by simp)]; go_simp
  clear H1
  have n1 : w.heap.size ≠ w.heap.size + 1 + 1 := by omega
  have n2 : w.heap.size ≠ w.heap.size + 1 + 1 + 1 := by omega
  have n3 : w.heap.size + 1 ≠ w.heap.size + 1 + 1 := by omega
  have n4 : w.heap.size + 1 ≠ w.heap.size + 1 + 1 + 1 := by omega
  have n5 : w.heap.size + 1 + 1 ≠ w.heap.size + 1 + 1 + 1 := by omega
  have HB : Hid (w.heap.size ≤ w.heap.size + 1 + 1 ∧ w.heap.size ≤ w.heap.size + 1 + 1 + 1) := ⟨by omega, by omega⟩
  go_wp2_with fail
  generalize w.heap.size + 1 + 1 + 1 = B3 at *
  generalize w.heap.size + 1 + 1 = B2 at *
  go_region_held3 (fun w' => w'.cell? ⟨w.heap.size, 0, none⟩ = some (.int .i64 ax) ∧ w'.cell? ⟨w.heap.size, 1, none⟩ = some (.int .i64 ay) ∧ w'.cell? ⟨w.heap.size + 1, 0, none⟩ = some (.int .i64 bx) ∧ w'.cell? ⟨w.heap.size + 1, 1, none⟩ = some (.int .i64 by'))
    (first
      | (simp only [drew_cell, set_other n1, set_other n2, set_other n3, set_other n4]; exact ⟨a0, a1, b0, b1⟩)
      | go_keep)
    (first
      | fail)
  go_wp2_with fail
  refine bodyPost_ret (v := .tuple #[.agg #[.int .i64 ax, .int .i64 ay], .agg #[.int .i64 bx, .int .i64 by']]) (by simp [results, Try.results84, go_sem, u0, u1, v0, v1]) rfl ?_
  exact ⟨rfl, ((((HW.out.set HB.out.1 _).set HB.out.1 _).set HB.out.2 _).set HB.out.2 _).drewN 1⟩

/-- Two points, the one that comes first ahead. -/
theorem sorted_any (ax ay bx by' : Int) (w : World) (ha : CdP (ax, ay)) (hb : CdP (bx, by')) :
    Calls Try.prog 84 #[.agg #[.int .i64 ax, .int .i64 ay], .agg #[.int .i64 bx, .int .i64 by']] w fun e w' => ∃ fx fy lx ly : Int, e = .returned (.tuple #[.agg #[.int .i64 fx, .int .i64 fy], .agg #[.int .i64 lx, .int .i64 ly]]) ∧
      Hid (K (fx, fy) = min (K (ax, ay)) (K (bx, by')) ∧ K (lx, ly) = max (K (ax, ay)) (K (bx, by')) ∧ (((fx, fy) = (ax, ay) ∧ (lx, ly) = (bx, by')) ∨ ((fx, fy) = (bx, by') ∧ (lx, ly) = (ax, ay)))) ∧ Hid (New w w') := by
  have hc := cmpP_eq ha hb
  by_cases h : 0 < cmpP (ax, ay) (bx, by')
  · refine (sorted_yes ax ay bx by' w h).mono ?_
    rintro e w1 ⟨rfl, H1⟩
    rw [hc, sgn_pos] at h
    exact ⟨_, _, _, _, rfl, ⟨by omega, by omega, Or.inr ⟨rfl, rfl⟩⟩, H1⟩
  · refine (sorted_no ax ay bx by' w (by omega)).mono ?_
    rintro e w1 ⟨rfl, H1⟩
    rw [hc, sgn_pos] at h
    exact ⟨_, _, _, _, rfl, ⟨by omega, by omega, Or.inl ⟨rfl, rfl⟩⟩, H1⟩

end Go.Proofs.Ytgeoffpcmkofkaa
/- The walks of package segment. -/
namespace Go.Proofs.Ytgeoffpcmkofkaa
open Go.RowKit Fl
set_option maxRecDepth 100000
attribute [local go_sem ↓] Go.wp_at_zero Go.wp_at_succ

/-- What 'Sorted' answers. -/
def Srt (a b f l : Pt) : Prop := K f = min (K a) (K b) ∧ K l = max (K a) (K b) ∧ ((f = a ∧ l = b) ∨ (f = b ∧ l = a))

theorem Srt.cd {a b f l : Pt} (h : Srt a b f l) (ha : CdP a) (hb : CdP b) : CdP f ∧ CdP l := by
  rcases h.2.2 with ⟨rfl, rfl⟩ | ⟨rfl, rfl⟩
  · exact ⟨ha, hb⟩
  · exact ⟨hb, ha⟩

theorem holds_val {a b f l p : Pt} (h : Srt a b f l) (ha : CdP a) (hb : CdP b) (hp : CdP p) : onP a b p ↔ cmpP f p ≤ 0 ∧ cmpP p l ≤ 0 ∧ sgn (D f l p) = 0 := by
  have hc := h.cd ha hb
  rw [holds_iff ha hb hp, cmpP_eq hc.1 hp, cmpP_eq hp hc.2, sgn_zero]
  have e1 : sgn (K f - K p) ≤ 0 ↔ K f ≤ K p := by rcases sgn_cases (K f - K p) with h | h | h <;> omega
  have e2 : sgn (K p - K l) ≤ 0 ↔ K p ≤ K l := by rcases sgn_cases (K p - K l) with h | h | h <;> omega
  have e3 : D f l p = 0 ↔ D a b p = 0 := by
    rcases h.2.2 with ⟨rfl, rfl⟩ | ⟨rfl, rfl⟩
    · exact Iff.rfl
    · rw [D_swap]; omega
  rw [e1, e2, e3]
  obtain ⟨h1, h2, h3⟩ := h
  omega

set_option maxHeartbeats 800000 in
theorem holds_any (ax ay bx by' px py : Int) (w : World) (ha : CdP (ax, ay)) (hb : CdP (bx, by')) (hp : CdP (px, py)) :
    Calls Try.prog 66 #[.agg #[.int .i64 ax, .int .i64 ay, .int .i64 bx, .int .i64 by'], .agg #[.int .i64 px, .int .i64 py]] w fun e w' => e = .returned (.bool (onB (ax, ay) (bx, by') (px, py))) ∧ Hid (New w w') := by
  go_enter Try.func66, Try.ntmps66
  go_wp2_with fail
  refine (sorted_any ax ay bx by' _ ha hb).mono ?_
  rintro e w1 ⟨fx, fy, lx, ly, rfl, HK, H1⟩
  have HW : Hid (New w w1) := ((New.alloc _ _).alloc' _).trans' H1.out
  have p0 : w1.cell? ⟨w.heap.size + 1, 0, none⟩ = some (.int .i64 px) := by rw [H1.out.rule _ _ (by simp)]; go_simp
  have p1 : w1.cell? ⟨w.heap.size + 1, 1, none⟩ = some (.int .i64 py) := by rw [H1.out.rule _ _ (by simp)]; go_simp
  have HL : Hid (w.heap.size + 1 < w1.heap.size) := by have := H1.out.size; simp at this; unfold Hid; omega
  have p0' : ∀ o1 o2, ((w1.alloc o1).alloc o2).cell? ⟨w.heap.size + 1, 0, none⟩ = some (.int .i64 px) := fun o1 o2 => (((New.alloc w1 o1).alloc' o2).rule _ _ HL.out).trans p0
  have p1' : ∀ o1 o2, ((w1.alloc o1).alloc o2).cell? ⟨w.heap.size + 1, 1, none⟩ = some (.int .i64 py) := fun o1 o2 => (((New.alloc w1 o1).alloc' o2).rule _ _ HL.out).trans p1
  clear H1
  go_wp2_with fail
  refine (compare_any fx fy px py _).mono ?_
  rintro e w2 ⟨rfl, H2⟩
  have HV : Hid (onP (ax, ay) (bx, by') (px, py) ↔ cmpP (fx, fy) (px, py) ≤ 0 ∧ cmpP (px, py) (lx, ly) ≤ 0 ∧ sgn (D (fx, fy) (lx, ly) (px, py)) = 0) := holds_val HK.out ha hb hp
  have HC : Hid (CdP (fx, fy) ∧ CdP (lx, ly) ∧ CdP (px, py)) := ⟨(Srt.cd HK.out ha hb).1, (Srt.cd HK.out ha hb).2, hp⟩
  have HN : Hid (New w w2) := ((HW.out.alloc' _).alloc' _).trans' H2.out
  have r2 := H2.out.rule
  have f0 : w2.cell? ⟨w1.heap.size, 0, none⟩ = some (.int .i64 fx) := by rw [r2 _ _ (by simp; omega)]; go_simp
  have f1 : w2.cell? ⟨w1.heap.size, 1, none⟩ = some (.int .i64 fy) := by rw [r2 _ _ (by simp; omega)]; go_simp
  have l0 : w2.cell? ⟨w1.heap.size + 1, 0, none⟩ = some (.int .i64 lx) := by rw [r2 _ _ (by simp)]; go_simp
  have l1 : w2.cell? ⟨w1.heap.size + 1, 1, none⟩ = some (.int .i64 ly) := by rw [r2 _ _ (by simp)]; go_simp
  have q0 : w2.cell? ⟨w.heap.size + 1, 0, none⟩ = some (.int .i64 px) := by rw [r2 _ _ (by have := HL.out; simp; omega)]; exact p0' _ _
  have q1 : w2.cell? ⟨w.heap.size + 1, 1, none⟩ = some (.int .i64 py) := by rw [r2 _ _ (by have := HL.out; simp; omega)]; exact p1' _ _
  have HS : Hid (w.heap.size + 1 < w2.heap.size ∧ w1.heap.size + 1 < w2.heap.size) := by have h := H2.out.size; have := HL.out; simp at h; exact ⟨by omega, by omega⟩
  clear r2 H2 p0 p1 p0' p1' HL HK ha hb hp
  by_cases h1 : cmpP (fx, fy) (px, py) ≤ 0
  · have HF1 : Hid (cmpP (fx, fy) (px, py) ≤ 0) := h1
    go_wp2_with fail
    refine (compare_any px py lx ly _).mono ?_
    rintro e w3 ⟨rfl, H3⟩
    have HN3 : Hid (New w w3) := HN.out.trans' H3.out
    have f0' : w3.cell? ⟨w1.heap.size, 0, none⟩ = some (.int .i64 fx) := (H3.out.rule _ _ (by have := HS.out; omega)).trans f0
    have f1' : w3.cell? ⟨w1.heap.size, 1, none⟩ = some (.int .i64 fy) := (H3.out.rule _ _ (by have := HS.out; omega)).trans f1
    have l0' : w3.cell? ⟨w1.heap.size + 1, 0, none⟩ = some (.int .i64 lx) := (H3.out.rule _ _ (by have := HS.out; omega)).trans l0
    have l1' : w3.cell? ⟨w1.heap.size + 1, 1, none⟩ = some (.int .i64 ly) := (H3.out.rule _ _ (by have := HS.out; omega)).trans l1
    have q0' : w3.cell? ⟨w.heap.size + 1, 0, none⟩ = some (.int .i64 px) := (H3.out.rule _ _ (by have := HS.out; omega)).trans q0
    have q1' : w3.cell? ⟨w.heap.size + 1, 1, none⟩ = some (.int .i64 py) := (H3.out.rule _ _ (by have := HS.out; omega)).trans q1
    clear H3 f0 f1 l0 l1 q0 q1 HN
    by_cases h2 : cmpP (px, py) (lx, ly) ≤ 0
    · have HF2 : Hid (cmpP (px, py) (lx, ly) ≤ 0) := h2
      go_wp2_with fail
      refine (of_any fx fy lx ly px py _ HC.out.1.1 HC.out.1.2 HC.out.2.1.1 HC.out.2.1.2 HC.out.2.2.1 HC.out.2.2.2).mono ?_
      rintro e w4 ⟨rfl, H4⟩
      by_cases h3 : sgn (det fx fy lx ly px py) = 0
      · have HF : Hid (onB (ax, ay) (bx, by') (px, py) = true) := decide_eq_true (HV.out.2 ⟨HF1.out, HF2.out, h3⟩)
        go_wp2_with fail
        go_ret
        exact ⟨by rw [HF.out]; rfl, HN3.out.trans' H4.out⟩
      · have HF : Hid (onB (ax, ay) (bx, by') (px, py) = false) := decide_eq_false (fun h => h3 (HV.out.1 h).2.2)
        go_wp2_with fail
        go_ret
        exact ⟨by rw [HF.out]; simp [h3], HN3.out.trans' H4.out⟩
    · have HF : Hid (onB (ax, ay) (bx, by') (px, py) = false) := decide_eq_false (fun h => h2 (HV.out.1 h).2.1)
      have h2' : ¬ (cmpP (px, py) (lx, ly) ≤ 0) := h2
      go_wp2_with fail
      go_ret
      exact ⟨by rw [HF.out]; rfl, HN3⟩
  · have HF : Hid (onB (ax, ay) (bx, by') (px, py) = false) := decide_eq_false (fun h => h1 (HV.out.1 h).1)
    go_wp2_with fail
    go_ret
    exact ⟨by rw [HF.out]; rfl, HN⟩

end Go.Proofs.Ytgeoffpcmkofkaa
