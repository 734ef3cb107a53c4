/- Hj; Hk: texts laid into one. -/
import Derived.Test.YtgeoffpcmkofkaaQar
import Derived.Test.YtgeoffpcmkofkaaQaw
/- The corners of the parts are enough: the ways round them are ways round all points. -/
namespace Go.Proofs.Ytgeoffpcmkofkaa
open Go Go.RowKit Fl

theorem LeftOf.of {α : Type} {D : α → α → α → Int} {x : α} : ∀ {l : List α}, (∀ (i : Nat) (u v : α), l[i]? = some v → l[i + 1]? = some u → 0 ≤ D u v x) → LeftOf D x l
  | [], _ => trivial
  | [_], _ => trivial
  | v :: u :: l, h => ⟨h 0 u v rfl rfl, LeftOf.of fun i a b h1 h2 => h (i + 1) a b (by simpa using h1) (by simpa using h2)⟩
theorem Rising.pairwise {s : Pts} (h : Rising s) : s.Pairwise fun a b => K a < K b := by
  rw [List.pairwise_iff_getElem]
  intro i j hi hj hij
  exact h i j _ _ (List.getElem?_eq_getElem hi) (List.getElem?_eq_getElem hj) hij
theorem Rising.back {s : Pts} (h : Rising s) : s.reverse.Pairwise fun a b => -K a < -K b := by
  rw [List.pairwise_reverse]
  exact h.pairwise.imp fun h => by omega
/-- There. -/
theorem there_ok {s : Pts} (h : Rising s) (hne : s ≠ []) : WayOK D K (· ∈ s) (wayOf D s) := by
  cases s with
  | nil => exact absurd rfl hne
  | cons p s => exact wayOf_ok plDK h.pairwise
/-- And back. -/
theorem back_ok {s : Pts} (h : Rising s) (hne : s ≠ []) : WayOK D (fun x => -K x) (· ∈ s) (wayOf D s.reverse) := by
  have hb := h.back
  cases hr : s.reverse with
  | nil => exact absurd (List.reverse_eq_nil_iff.1 hr) hne
  | cons p t =>
    rw [hr] at hb
    have := wayOf_ok plDK.neg hb
    have e : (fun x => x ∈ p :: t) = fun x => x ∈ s := by funext x; rw [← hr]; simp
    rw [e] at this
    exact this
theorem ring_has {s : Pts} (h : Rising s) {x : Pt} (hx : x ∈ wayOf D s ∨ x ∈ wayOf D s.reverse) : x ∈ ringL s := by
  have hne : s ≠ [] := by
    rintro rfl
    simp [wayOf] at hx
  unfold ringL
  split
  · rcases hx with hx | hx
    · exact wayOf_sub s.length s x (by rw [List.take_length]; exact hx)
    · exact List.mem_reverse.1 (wayOf_sub s.reverse.length s.reverse x (by rw [List.take_length]; exact hx))
  · rename_i h2
    have hT := there_ok h hne
    have hU := back_ok h hne
    have tl := way_len (s := s) (by omega)
    have ul := way_len (s := s.reverse) (by simp; omega)
    have m1 := ends_meet hT hU
    have hT' : WayOK D (fun x => - -K x) (· ∈ s) (wayOf D s) := by
      have e : (fun x : Pt => - -K x) = K := by funext x; omega
      rw [e]; exact hT
    have m2 := ends_meet hU hT'
    -- a way's points, but its last, and its last, with which the other begins
    have key : ∀ {A B : Pts}, 2 ≤ B.length → A.head? = B.getLast? → x ∈ A → x ∈ A.reverse.dropLast ∨ x ∈ B.reverse.dropLast := by
      intro A B hB hm hx
      cases A with
      | nil => simp at hx
      | cons a A =>
        rcases List.mem_cons.1 hx with rfl | hx
        · right
          have hr : B.reverse.head? = some x := by rw [List.head?_reverse, ← hm]; rfl
          cases hq : B.reverse with
          | nil => rw [hq] at hr; simp at hr
          | cons y Y =>
            rw [hq] at hr
            have : y = x := by simpa using hr
            subst this
            cases Y with
            | nil => have := congrArg List.length hq; simp at this; omega
            | cons z Z => simp
        · left
          rw [List.reverse_cons, List.dropLast_concat]
          simpa using hx
    rw [List.mem_append]
    rcases hx with hx | hx
    · exact key ul m1 hx
    · exact (key tl m2 hx).symm
/-- The i-th part, in its order. -/
def partS (l : Pts) (i : Nat) : Pts := disL ((l.drop (8 * i)).take 8)
/-- The corners of the parts. -/
def cornersL (l : Pts) : Pts := cat (fun i => ringL (partS l i)) ((l.length + 7) / 8)
def hullS (l : Pts) : Pts := disL (cornersL l)
section
variable {l : Pts}
theorem part_is (hc : ∀ x ∈ l, CdP x) (i : Nat) : IsDis ((l.drop (8 * i)).take 8) (partS l i) := disL_is fun x hx => hc x (List.mem_of_mem_drop (List.mem_of_mem_take hx))
theorem corner_sub (hc : ∀ x ∈ l, CdP x) {x : Pt} (h : x ∈ cornersL l) : x ∈ l := by
  obtain ⟨i, _, h2⟩ := cat_sub h
  exact List.mem_of_mem_drop (List.mem_of_mem_take (((part_is hc i).mem x).1 (ring_sub h2)))
theorem corner_cd (hc : ∀ x ∈ l, CdP x) : ∀ x ∈ cornersL l, CdP x := fun x hx => hc x (corner_sub hc hx)
theorem hull_is (hc : ∀ x ∈ l, CdP x) : IsDis (cornersL l) (hullS l) := disL_is (corner_cd hc)
theorem in_part {x : Pt} (h : x ∈ l) : ∃ i, i < (l.length + 7) / 8 ∧ x ∈ (l.drop (8 * i)).take 8 := by
  obtain ⟨n, hn, rfl⟩ := List.mem_iff_getElem.1 h
  refine ⟨n / 8, by omega, ?_⟩
  have e : l[n] = ((l.drop (8 * (n / 8))).take 8)[n % 8]'(by simp; omega) := by
    simp only [List.getElem_take, List.getElem_drop]
    congr 1
    omega
  rw [e]
  exact List.getElem_mem _
theorem in_corners {x : Pt} {i : Nat} (hi : i < (l.length + 7) / 8) (h : x ∈ ringL (partS l i)) : x ∈ cornersL l := by
  simp only [cornersL, cat, List.mem_flatMap, List.mem_range]
  exact ⟨i, hi, h⟩
/-- What holds of the corners of the parts holds of all. -/
theorem all_left (hc : ∀ x ∈ l, CdP x) {u v : Pt} (h : ∀ c ∈ cornersL l, 0 ≤ D u v c) {x : Pt} (hx : x ∈ l) : 0 ≤ D u v x := by
  obtain ⟨i, hi, hx⟩ := in_part hx
  have hs := part_is hc i
  have hx' := (hs.mem x).2 hx
  have hne : partS l i ≠ [] := fun e => by rw [e] at hx'; simp at hx'
  rcases Int.le_total (K u) (K v) with huv | huv
  · exact enough affDK (there_ok hs.rising hne) huv (fun c hcm => h c (in_corners hi (ring_has hs.rising (.inl hcm)))) hx'
  · exact enough affDK.neg (back_ok hs.rising hne) (by omega) (fun c hcm => h c (in_corners hi (ring_has hs.rising (.inr hcm)))) hx'
/-- The least and the greatest are corners. -/
theorem all_low (hc : ∀ x ∈ l, CdP x) {k : Int} (h : ∀ c ∈ cornersL l, k ≤ K c) {x : Pt} (hx : x ∈ l) : k ≤ K x := by
  obtain ⟨i, hi, hx⟩ := in_part hx
  have hs := part_is hc i
  have hx' := (hs.mem x).2 hx
  have hne : partS l i ≠ [] := fun e => by rw [e] at hx'; simp at hx'
  have hw := there_ok hs.rising hne
  cases hm : (wayOf D (partS l i)).getLast? with
  | none => exact absurd (List.getLast?_eq_none_iff.1 hm) hw.some
  | some m =>
    have h1 := (hw.low m hm x hx').1
    have h2 := h m (in_corners hi (ring_has hs.rising (.inl (List.mem_of_getLast? hm))))
    omega
theorem all_top (hc : ∀ x ∈ l, CdP x) {k : Int} (h : ∀ c ∈ cornersL l, K c ≤ k) {x : Pt} (hx : x ∈ l) : K x ≤ k := by
  obtain ⟨i, hi, hx⟩ := in_part hx
  have hs := part_is hc i
  have hx' := (hs.mem x).2 hx
  have hne : partS l i ≠ [] := fun e => by rw [e] at hx'; simp at hx'
  have hw := there_ok hs.rising hne
  cases hm : wayOf D (partS l i) with
  | nil => exact absurd hm hw.some
  | cons t r =>
    have h1 := hw.top t r hm x hx'
    have h2 := h t (in_corners hi (ring_has hs.rising (.inl (by rw [hm]; simp))))
    omega
theorem hull_ne (hc : ∀ x ∈ l, CdP x) (hl : l ≠ []) : hullS l ≠ [] := by
  intro e
  cases l with
  | nil => exact hl rfl
  | cons a t =>
    have hs := hull_is hc
    have h : ∀ c ∈ cornersL (a :: t), K a + 1 ≤ K c := fun c hcm => by
      have := (hs.mem c).2 hcm
      rw [e] at this
      simp at this
    have := all_low hc h (x := a) (by simp)
    omega
/-- The way there is one round all points. -/
theorem hull_there (hc : ∀ x ∈ l, CdP x) (hl : l ≠ []) : WayOK D K (· ∈ l) (wayOf D (hullS l)) := by
  have hs := hull_is hc
  have hw := there_ok hs.rising (hull_ne hc hl)
  have hsub : ∀ x ∈ wayOf D (hullS l), x ∈ l := fun x hx => corner_sub hc ((hs.mem x).1 (hw.part x hx))
  refine ⟨hw.turns, hw.falls, fun x hx => LeftOf.of fun i u v h1 h2 => ?_, hsub, hw.some, fun t r e x hx => ?_, fun m hm x hx => ?_⟩
  · exact all_left hc (fun c hcm => (hw.left c ((hs.mem c).2 hcm)).get i h1 h2) hx
  · exact all_top hc (fun c hcm => hw.top t r e c ((hs.mem c).2 hcm)) hx
  · exact ⟨all_low hc (fun c hcm => (hw.low m hm c ((hs.mem c).2 hcm)).1) hx, fun e => K_inj (hc x hx) (hc m (hsub m (List.mem_of_getLast? hm))) e⟩
theorem hull_back (hc : ∀ x ∈ l, CdP x) (hl : l ≠ []) : WayOK D (fun x => -K x) (· ∈ l) (wayOf D (hullS l).reverse) := by
  have hs := hull_is hc
  have hw := back_ok hs.rising (hull_ne hc hl)
  have hsub : ∀ x ∈ wayOf D (hullS l).reverse, x ∈ l := fun x hx => corner_sub hc ((hs.mem x).1 (hw.part x hx))
  refine ⟨hw.turns, hw.falls, fun x hx => LeftOf.of fun i u v h1 h2 => ?_, hsub, hw.some, fun t r e x hx => ?_, fun m hm x hx => ?_⟩
  · exact all_left hc (fun c hcm => (hw.left c ((hs.mem c).2 hcm)).get i h1 h2) hx
  · have := all_low hc (k := K t) (fun c hcm => by have := hw.top t r e c ((hs.mem c).2 hcm); omega) hx
    omega
  · have := all_top hc (k := K m) (fun c hcm => by have := (hw.low m hm c ((hs.mem c).2 hcm)).1; omega) hx
    exact ⟨by omega, fun e => K_inj (hc x hx) (hc m (hsub m (List.mem_of_getLast? hm))) (by omega)⟩
end
end Go.Proofs.Ytgeoffpcmkofkaa
/- The ring of corners: what it is, over all points of the list. -/
namespace Go.Proofs.Ytgeoffpcmkofkaa
open Go Go.RowKit Fl

/-- All that is told of a ring of two corners or more. -/
structure RingOK (l R : Pts) : Prop where
  len : 2 ≤ R.length
  sub : ∀ x ∈ R, x ∈ l
  nodup : ∀ (i j : Nat) (x : Pt), R[i]? = some x → R[j]? = some x → i = j
  tow : ∀ (i : Nat) (u v : Pt), R[i]? = some u → R[(i + 1) % R.length]? = some v → Towards D K (· ∈ l) u v
  turns : 3 ≤ R.length → ∀ (i : Nat) (a b c : Pt), R[i]? = some a → R[(i + 1) % R.length]? = some b → R[(i + 2) % R.length]? = some c → 0 < D a b c
  first : ∀ f, R[0]? = some f → ∀ x ∈ l, K f ≤ K x
  all : ∀ x ∈ l, ∀ k ∈ l, Towards D K (· ∈ l) x k → x ∈ R
section
variable {α : Type} {D : α → α → α → Int} {K : α → Int} {Seen : α → Prop}
theorem Rises.mono {r : List α} (h : Rises D K Seen r) : ∀ (d i : Nat) (u v : α), r[i]? = some u → r[i + d + 1]? = some v → K u < K v
  | 0, i, u, v, h1, h2 => h.rise i u v h1 h2
  | d + 1, i, u, v, h1, h2 => by
    have hl : i + d + 1 < r.length := by
      have := (List.getElem?_eq_some_iff.1 h2).1
      omega
    have e : r[i + d + 1]? = some r[i + d + 1] := List.getElem?_eq_getElem hl
    have a := h.mono d i u _ h1 e
    have b := h.rise (i + d + 1) _ v e h2
    omega
theorem Rises.lt {r : List α} (h : Rises D K Seen r) {i j : Nat} {u v : α} (h1 : r[i]? = some u) (h2 : r[j]? = some v) (hij : i < j) : K u < K v :=
  h.mono (j - i - 1) i u v h1 (by rw [show i + (j - i - 1) + 1 = j by omega]; exact h2)
/-- A side of the way there leads towards its end. -/
theorem Rises.tow (hP : Pl D K) {T : List α} (hT : Rises D K Seen T) (first : ∀ f, T[0]? = some f → ∀ j, Seen j → K f ≤ K j) {i : Nat} {x k : α} (e1 : T[i]? = some x) (e2 : T[i + 1]? = some k) : Towards D K Seen x k := by
  obtain ⟨h1, h2, h3⟩ := in_corner hP hT first e1 e2
  exact ⟨h2, fun _ => h3, fun h => by omega, by omega⟩
theorem Towards.neg {x k : α} (h : Towards D (fun x => -K x) Seen x k) : Towards D K Seen x k :=
  ⟨h.left, fun hk j hj hz hlt => h.backward (by omega) j hj hz (by omega), fun hk j hj hz hlt => h.ahead (by omega) j hj hz (by omega), fun e => h.apart (by omega)⟩
theorem Round.tow (hP : Pl D K) {T U : List α} {p q : Nat} (h : Round T U p q) (hT : Rises D K Seen T) (hU : Rises D (fun x => -K x) Seen U)
    (fT : ∀ f, T[0]? = some f → ∀ j, Seen j → K f ≤ K j) (fU : ∀ f, U[0]? = some f → ∀ j, Seen j → -K f ≤ -K j) {i : Nat} (hi : i < p + q) {u v : α} (e1 : (ring T U p q)[i]? = some u) (e2 : (ring T U p q)[(i + 1) % (p + q)]? = some v) : Towards D K Seen u v := by
  rw [h.at hi] at e1
  rw [h.next hi] at e2
  by_cases hp : i < p
  · rw [if_pos hp] at e1
    rw [if_pos (by omega)] at e2
    exact hT.tow hP fT e1 e2
  · rw [if_neg hp] at e1
    rw [if_neg (by omega)] at e2
    exact (hU.tow hP.neg fU e1 (by rw [show i - p + 1 = i + 1 - p by omega]; exact e2)).neg
/-- No corner comes twice. -/
theorem Round.nodup (hP : Pl D K) (hA : Aff D K) {T U : List α} {p q : Nat} (h : Round T U p q) (hT : Rises D K Seen T) (hU : Rises D (fun x => -K x) Seen U)
    (fT : ∀ f, T[0]? = some f → ∀ j, Seen j → K f ≤ K j) {i j : Nat} (hij : i < j) (hj : j < p + q) {x : α} (e1 : (ring T U p q)[i]? = some x) (e2 : (ring T U p q)[j]? = some x) : False := by
  have p1 := h.p1
  have q1 := h.q1
  rw [h.at (by omega)] at e1
  rw [h.at hj] at e2
  by_cases hjp : j < p
  · rw [if_pos (by omega)] at e1
    rw [if_pos hjp] at e2
    have := hT.lt e1 e2 hij
    omega
  · rw [if_neg hjp] at e2
    by_cases hip : i < p
    · rw [if_pos hip] at e1
      have get : ∀ {l : List α} {k : Nat}, k < l.length → ∃ z, l[k]? = some z := fun hk => ⟨_, List.getElem?_eq_getElem hk⟩
      by_cases hj0 : j = p
      · rw [hj0, Nat.sub_self, ← h.join] at e2
        have := hT.lt e1 e2 hip
        omega
      · by_cases hi0 : i = 0
        · subst hi0
          rw [← h.close] at e1
          have := hU.lt e2 e1 (by omega)
          omega
        · obtain ⟨a, ha⟩ := get (l := T) (k := i - 1) (by rw [h.lenT]; omega)
          obtain ⟨b, hb⟩ := get (l := T) (k := i + 1) (by rw [h.lenT]; omega)
          obtain ⟨c, hc⟩ := get (l := U) (k := j - p - 1) (by rw [h.lenU]; omega)
          have e1' : T[i - 1 + 1]? = some x := by rw [show i - 1 + 1 = i by omega]; exact e1
          have e2' : U[j - p - 1 + 1]? = some x := by rw [show j - p - 1 + 1 = j - p by omega]; exact e2
          have sa := hT.part a (List.mem_of_getElem? ha)
          have sc := hU.part c (List.mem_of_getElem? hc)
          have d1 := hT.left (i - 1) a x c ha e1' sc
          have d2 := hU.left (j - p - 1) c x a hc e2' sa
          have r1 := hP.rot a x c
          have r2 := hP.rot x c a
          have r3 := hP.swp c x a
          have r4 := hP.swp a c x
          refine no_between hP hA (hT.tow hP fT e1 hb) sa sc (hT.rise _ a x ha e1') (by have := hU.rise _ c x hc e2'; omega) (by omega)
    · rw [if_neg hip] at e1
      have := hU.lt e1 e2 (by omega)
      omega
end
theorem ring_len {s : Pts} (h2 : ¬s.length < 2) {T U : Pts} (hT : T = (wayOf D s).reverse) (hU : U = (wayOf D s.reverse).reverse) : ringL s = ring T U (T.length - 1) (U.length - 1) := by
  unfold ringL ring
  rw [if_neg h2, List.dropLast_eq_take, List.dropLast_eq_take, hT, hU]
theorem ring_ok {l : Pts} (hc : ∀ x ∈ l, CdP x) {a b : Pt} (ha : a ∈ l) (hb : b ∈ l) (hab : K a < K b) : RingOK l (ringL (hullS l)) := by
  have hl : l ≠ [] := fun e => by rw [e] at ha; simp at ha
  have hw := hull_there hc hl
  have hu := hull_back hc hl
  have s2 : ¬(hullS l).length < 2 := by
    intro h
    have h1 := hw.two ha hb hab
    have h2 : ∃ z, hullS l = [z] := by
      cases hs : hullS l with
      | nil => exact absurd hs (hull_ne hc hl)
      | cons z t =>
        cases t with
        | nil => exact ⟨z, rfl⟩
        | cons y t => rw [hs] at h; simp at h; omega
    obtain ⟨z, hz⟩ := h2
    rw [hz] at h1
    simp [wayOf, pops] at h1
  have hr := round_of hw hu ha hb hab
  have eR := ring_len s2 (T := (wayOf D (hullS l)).reverse) (U := (wayOf D (hullS l).reverse).reverse) rfl rfl
  rw [List.length_reverse, List.length_reverse] at eR
  have hT := hw.rises
  have hU := hu.rises
  have fT : ∀ f, (wayOf D (hullS l)).reverse[0]? = some f → ∀ j, j ∈ l → K f ≤ K j := fun f e j hj => by
    rw [← List.head?_eq_getElem?, List.head?_reverse] at e
    exact (hw.low f e j hj).1
  have fU : ∀ f, (wayOf D (hullS l).reverse).reverse[0]? = some f → ∀ j, j ∈ l → -K f ≤ -K j := fun f e j hj => by
    rw [← List.head?_eq_getElem?, List.head?_reverse] at e
    exact (hu.low f e j hj).1
  have hlen := hr.length
  rw [eR]
  have inj : ∀ x ∈ l, ∀ y, y ∈ l → K y = K x → y = x := fun x hx y hy e => K_inj (hc y hy) (hc x hx) e
  refine ⟨by rw [hlen]; have := hr.p1; have := hr.q1; omega, fun x hx => ?_, fun i j x e1 e2 => ?_, fun i u v e1 e2 => ?_, fun h3 i a b c e1 e2 e3 => ?_, fun f e x hx => ?_, fun x hx k hk ht => ?_⟩
  · rcases List.mem_append.1 hx with h | h
    · exact hT.part x (List.mem_of_mem_take h)
    · exact hU.part x (List.mem_of_mem_take h)
  · have l1 := (List.getElem?_eq_some_iff.1 e1).1
    have l2 := (List.getElem?_eq_some_iff.1 e2).1
    rw [hlen] at l1 l2
    rcases Nat.lt_trichotomy i j with h | h | h
    · exact (hr.nodup plDK affDK hT hU fT h l2 e1 e2).elim
    · exact h
    · exact (hr.nodup plDK affDK hT hU fT h l1 e2 e1).elim
  · have l1 := (List.getElem?_eq_some_iff.1 e1).1
    rw [hlen] at l1 e2
    exact hr.tow plDK hT hU fT fU l1 e1 e2
  · have l1 := (List.getElem?_eq_some_iff.1 e1).1
    rw [hlen] at l1 e2 e3 h3
    exact hr.turns plDK hT hU h3 l1 e1 e2 e3
  · rw [hr.at (by have := hr.p1; omega), if_pos (by have := hr.p1; omega)] at e
    exact fT f e x hx
  · have hm : x ∈ wayOf D (hullS l) ∨ x ∈ wayOf D (hullS l).reverse := by
      rcases Int.lt_or_le (K x) (K k) with h | h
      · exact .inl (corner_in plDK affDK hw hx h ht.left (ht.ahead h) (fun y hy e => inj x hx y hy e))
      · have h' : K k < K x := by have := ht.apart; omega
        exact .inr (corner_in plDK.neg affDK.neg hu (x := x) (k := k) hx (by omega) ht.left (fun j hj hz hlt => ht.backward h' j hj hz (by omega)) (fun y hy e => inj x hx y hy (by omega)))
    have := ring_has (hull_is hc).rising hm
    rw [eR] at this
    exact this
end Go.Proofs.Ytgeoffpcmkofkaa
