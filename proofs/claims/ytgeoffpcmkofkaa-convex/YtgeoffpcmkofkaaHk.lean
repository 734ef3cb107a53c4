/- The ring of corners: what it is, over all points of the list. -/
import Derived.Test.YtgeoffpcmkofkaaHj
namespace Go.Proofs.Ytgeoffpcmkofkaa
open Go Go.RowKit Fl

/-- All that is told of a ring of two corners or more. -/
structure RingOK (l R : Pts) : Prop where
  len : 2 ≤ R.length
  sub : ∀ x ∈ R, x ∈ l
  nodup : ∀ (i j : Nat) (x : Pt), R[i]? = some x → R[j]? = some x → i = j
  tow : ∀ (i : Nat) (u v : Pt), R[i]? = some u → R[(i + 1) % R.length]? = some v → Towards D K (· ∈ l) u v
  turns : 3 ≤ R.length → ∀ (i : Nat) (a b c : Pt), R[i]? = some a → R[(i + 1) % R.length]? = some b → R[(i + 2) % R.length]? = some c → 0 < D a b c
  first : ∀ f, R[0]? = some f → ∀ x ∈ l, K f ≤ K x
  all : ∀ x ∈ l, ∀ k ∈ l, Towards D K (· ∈ l) x k → x ∈ R
section
variable {α : Type} {D : α → α → α → Int} {K : α → Int} {Seen : α → Prop}
theorem Rises.mono {r : List α} (h : Rises D K Seen r) : ∀ (d i : Nat) (u v : α), r[i]? = some u → r[i + d + 1]? = some v → K u < K v
  | 0, i, u, v, h1, h2 => h.rise i u v h1 h2
  | d + 1, i, u, v, h1, h2 => by
    have hl : i + d + 1 < r.length := by
      have := (List.getElem?_eq_some_iff.1 h2).1
      omega
    have e : r[i + d + 1]? = some r[i + d + 1] := List.getElem?_eq_getElem hl
    have a := h.mono d i u _ h1 e
    have b := h.rise (i + d + 1) _ v e h2
    omega
theorem Rises.lt {r : List α} (h : Rises D K Seen r) {i j : Nat} {u v : α} (h1 : r[i]? = some u) (h2 : r[j]? = some v) (hij : i < j) : K u < K v :=
  h.mono (j - i - 1) i u v h1 (by rw [show i + (j - i - 1) + 1 = j by omega]; exact h2)
/-- A side of the way there leads towards its end. -/
theorem Rises.tow (hP : Pl D K) {T : List α} (hT : Rises D K Seen T) (first : ∀ f, T[0]? = some f → ∀ j, Seen j → K f ≤ K j) {i : Nat} {x k : α} (e1 : T[i]? = some x) (e2 : T[i + 1]? = some k) : Towards D K Seen x k := by
  obtain ⟨h1, h2, h3⟩ := in_corner hP hT first e1 e2
  exact ⟨h2, fun _ => h3, fun h => by omega, by omega⟩
theorem Towards.neg {x k : α} (h : Towards D (fun x => -K x) Seen x k) : Towards D K Seen x k :=
  ⟨h.left, fun hk j hj hz hlt => h.backward (by omega) j hj hz (by omega), fun hk j hj hz hlt => h.ahead (by omega) j hj hz (by omega), fun e => h.apart (by omega)⟩
theorem Round.tow (hP : Pl D K) {T U : List α} {p q : Nat} (h : Round T U p q) (hT : Rises D K Seen T) (hU : Rises D (fun x => -K x) Seen U)
    (fT : ∀ f, T[0]? = some f → ∀ j, Seen j → K f ≤ K j) (fU : ∀ f, U[0]? = some f → ∀ j, Seen j → -K f ≤ -K j) {i : Nat} (hi : i < p + q) {u v : α} (e1 : (ring T U p q)[i]? = some u) (e2 : (ring T U p q)[(i + 1) % (p + q)]? = some v) : Towards D K Seen u v := by
  rw [h.at hi] at e1
  rw [h.next hi] at e2
  by_cases hp : i < p
  · rw [if_pos hp] at e1
    rw [if_pos (by omega)] at e2
    exact hT.tow hP fT e1 e2
  · rw [if_neg hp] at e1
    rw [if_neg (by omega)] at e2
    exact (hU.tow hP.neg fU e1 (by rw [show i - p + 1 = i + 1 - p by omega]; exact e2)).neg
/-- No corner comes twice. -/
theorem Round.nodup (hP : Pl D K) (hA : Aff D K) {T U : List α} {p q : Nat} (h : Round T U p q) (hT : Rises D K Seen T) (hU : Rises D (fun x => -K x) Seen U)
    (fT : ∀ f, T[0]? = some f → ∀ j, Seen j → K f ≤ K j) {i j : Nat} (hij : i < j) (hj : j < p + q) {x : α} (e1 : (ring T U p q)[i]? = some x) (e2 : (ring T U p q)[j]? = some x) : False := by
  have p1 := h.p1
  have q1 := h.q1
  rw [h.at (by omega)] at e1
  rw [h.at hj] at e2
  by_cases hjp : j < p
  · rw [if_pos (by omega)] at e1
    rw [if_pos hjp] at e2
    have := hT.lt e1 e2 hij
    omega
  · rw [if_neg hjp] at e2
    by_cases hip : i < p
    · rw [if_pos hip] at e1
      have get : ∀ {l : List α} {k : Nat}, k < l.length → ∃ z, l[k]? = some z := fun hk => ⟨_, List.getElem?_eq_getElem hk⟩
      by_cases hj0 : j = p
      · rw [hj0, Nat.sub_self, ← h.join] at e2
        have := hT.lt e1 e2 hip
        omega
      · by_cases hi0 : i = 0
        · subst hi0
          rw [← h.close] at e1
          have := hU.lt e2 e1 (by omega)
          omega
        · obtain ⟨a, ha⟩ := get (l := T) (k := i - 1) (by rw [h.lenT]; omega)
          obtain ⟨b, hb⟩ := get (l := T) (k := i + 1) (by rw [h.lenT]; omega)
          obtain ⟨c, hc⟩ := get (l := U) (k := j - p - 1) (by rw [h.lenU]; omega)
          have e1' : T[i - 1 + 1]? = some x := by rw [show i - 1 + 1 = i by omega]; exact e1
          have e2' : U[j - p - 1 + 1]? = some x := by rw [show j - p - 1 + 1 = j - p by omega]; exact e2
          have sa := hT.part a (List.mem_of_getElem? ha)
          have sc := hU.part c (List.mem_of_getElem? hc)
          have d1 := hT.left (i - 1) a x c ha e1' sc
          have d2 := hU.left (j - p - 1) c x a hc e2' sa
          have r1 := hP.rot a x c
          have r2 := hP.rot x c a
          have r3 := hP.swp c x a
          have r4 := hP.swp a c x
          refine no_between hP hA (hT.tow hP fT e1 hb) sa sc (hT.rise _ a x ha e1') (by have := hU.rise _ c x hc e2'; omega) (by omega)
    · rw [if_neg hip] at e1
      have := hU.lt e1 e2 (by omega)
      omega
end
theorem ring_len {s : Pts} (h2 : ¬s.length < 2) {T U : Pts} (hT : T = (wayOf D s).reverse) (hU : U = (wayOf D s.reverse).reverse) : ringL s = ring T U (T.length - 1) (U.length - 1) := by
  unfold ringL ring
  rw [if_neg h2, List.dropLast_eq_take, List.dropLast_eq_take, hT, hU]
theorem ring_ok {l : Pts} (hc : ∀ x ∈ l, CdP x) {a b : Pt} (ha : a ∈ l) (hb : b ∈ l) (hab : K a < K b) : RingOK l (ringL (hullS l)) := by
  have hl : l ≠ [] := fun e => by rw [e] at ha; simp at ha
  have hw := hull_there hc hl
  have hu := hull_back hc hl
  have s2 : ¬(hullS l).length < 2 := by
    intro h
    have h1 := hw.two ha hb hab
    have h2 : ∃ z, hullS l = [z] := by
      cases hs : hullS l with
      | nil => exact absurd hs (hull_ne hc hl)
      | cons z t =>
        cases t with
        | nil => exact ⟨z, rfl⟩
        | cons y t => rw [hs] at h; simp at h; omega
    obtain ⟨z, hz⟩ := h2
    rw [hz] at h1
    simp [wayOf, pops] at h1
  have hr := round_of hw hu ha hb hab
  have eR := ring_len s2 (T := (wayOf D (hullS l)).reverse) (U := (wayOf D (hullS l).reverse).reverse) rfl rfl
  rw [List.length_reverse, List.length_reverse] at eR
  have hT := hw.rises
  have hU := hu.rises
  have fT : ∀ f, (wayOf D (hullS l)).reverse[0]? = some f → ∀ j, j ∈ l → K f ≤ K j := fun f e j hj => by
    rw [← List.head?_eq_getElem?, List.head?_reverse] at e
    exact (hw.low f e j hj).1
  have fU : ∀ f, (wayOf D (hullS l).reverse).reverse[0]? = some f → ∀ j, j ∈ l → -K f ≤ -K j := fun f e j hj => by
    rw [← List.head?_eq_getElem?, List.head?_reverse] at e
    exact (hu.low f e j hj).1
  have hlen := hr.length
  rw [eR]
  have inj : ∀ x ∈ l, ∀ y, y ∈ l → K y = K x → y = x := fun x hx y hy e => K_inj (hc y hy) (hc x hx) e
  refine ⟨by rw [hlen]; have := hr.p1; have := hr.q1; omega, fun x hx => ?_, fun i j x e1 e2 => ?_, fun i u v e1 e2 => ?_, fun h3 i a b c e1 e2 e3 => ?_, fun f e x hx => ?_, fun x hx k hk ht => ?_⟩
  · rcases List.mem_append.1 hx with h | h
    · exact hT.part x (List.mem_of_mem_take h)
    · exact hU.part x (List.mem_of_mem_take h)
  · have l1 := (List.getElem?_eq_some_iff.1 e1).1
    have l2 := (List.getElem?_eq_some_iff.1 e2).1
    rw [hlen] at l1 l2
    rcases Nat.lt_trichotomy i j with h | h | h
    · exact (hr.nodup plDK affDK hT hU fT h l2 e1 e2).elim
    · exact h
    · exact (hr.nodup plDK affDK hT hU fT h l1 e2 e1).elim
  · have l1 := (List.getElem?_eq_some_iff.1 e1).1
    rw [hlen] at l1 e2
    exact hr.tow plDK hT hU fT fU l1 e1 e2
  · have l1 := (List.getElem?_eq_some_iff.1 e1).1
    rw [hlen] at l1 e2 e3 h3
    exact hr.turns plDK hT hU h3 l1 e1 e2 e3
  · rw [hr.at (by have := hr.p1; omega), if_pos (by have := hr.p1; omega)] at e
    exact fT f e x hx
  · have hm : x ∈ wayOf D (hullS l) ∨ x ∈ wayOf D (hullS l).reverse := by
      rcases Int.lt_or_le (K x) (K k) with h | h
      · exact .inl (corner_in plDK affDK hw hx h ht.left (ht.ahead h) (fun y hy e => inj x hx y hy e))
      · have h' : K k < K x := by have := ht.apart; omega
        exact .inr (corner_in plDK.neg affDK.neg hu (x := x) (k := k) hx (by omega) ht.left (fun j hj hz hlt => ht.backward h' j hj hz (by omega)) (fun y hy e => inj x hx y hy (by omega)))
    have := ring_has (hull_is hc).rising hm
    rw [eR] at this
    exact this
end Go.Proofs.Ytgeoffpcmkofkaa
