/- The corners of the parts are enough: the ways round them are ways round all points. -/
import Derived.Test.YtgeoffpcmkofkaaHi
import Derived.Test.YtgeoffpcmkofkaaMn
namespace Go.Proofs.Ytgeoffpcmkofkaa
open Go Go.RowKit Fl

theorem LeftOf.of {α : Type} {D : α → α → α → Int} {x : α} : ∀ {l : List α}, (∀ (i : Nat) (u v : α), l[i]? = some v → l[i + 1]? = some u → 0 ≤ D u v x) → LeftOf D x l
  | [], _ => trivial
  | [_], _ => trivial
  | v :: u :: l, h => ⟨h 0 u v rfl rfl, LeftOf.of fun i a b h1 h2 => h (i + 1) a b (by simpa using h1) (by simpa using h2)⟩
theorem Rising.pairwise {s : Pts} (h : Rising s) : s.Pairwise fun a b => K a < K b := by
  rw [List.pairwise_iff_getElem]
  intro i j hi hj hij
  exact h i j _ _ (List.getElem?_eq_getElem hi) (List.getElem?_eq_getElem hj) hij
theorem Rising.back {s : Pts} (h : Rising s) : s.reverse.Pairwise fun a b => -K a < -K b := by
  rw [List.pairwise_reverse]
  exact h.pairwise.imp fun h => by omega
/-- There. -/
theorem there_ok {s : Pts} (h : Rising s) (hne : s ≠ []) : WayOK D K (· ∈ s) (wayOf D s) := by
  cases s with
  | nil => exact absurd rfl hne
  | cons p s => exact wayOf_ok plDK h.pairwise
/-- And back. -/
theorem back_ok {s : Pts} (h : Rising s) (hne : s ≠ []) : WayOK D (fun x => -K x) (· ∈ s) (wayOf D s.reverse) := by
  have hb := h.back
  cases hr : s.reverse with
  | nil => exact absurd (List.reverse_eq_nil_iff.1 hr) hne
  | cons p t =>
    rw [hr] at hb
    have := wayOf_ok plDK.neg hb
    have e : (fun x => x ∈ p :: t) = fun x => x ∈ s := by funext x; rw [← hr]; simp
    rw [e] at this
    exact this
theorem ring_has {s : Pts} (h : Rising s) {x : Pt} (hx : x ∈ wayOf D s ∨ x ∈ wayOf D s.reverse) : x ∈ ringL s := by
  have hne : s ≠ [] := by
    rintro rfl
    simp [wayOf] at hx
  unfold ringL
  split
  · rcases hx with hx | hx
    · exact wayOf_sub s.length s x (by rw [List.take_length]; exact hx)
    · exact List.mem_reverse.1 (wayOf_sub s.reverse.length s.reverse x (by rw [List.take_length]; exact hx))
  · rename_i h2
    have hT := there_ok h hne
    have hU := back_ok h hne
    have tl := way_len (s := s) (by omega)
    have ul := way_len (s := s.reverse) (by simp; omega)
    have m1 := ends_meet hT hU
    have hT' : WayOK D (fun x => - -K x) (· ∈ s) (wayOf D s) := by
      have e : (fun x : Pt => - -K x) = K := by funext x; omega
      rw [e]; exact hT
    have m2 := ends_meet hU hT'
    -- a way's points, but its last, and its last, with which the other begins
    have key : ∀ {A B : Pts}, 2 ≤ B.length → A.head? = B.getLast? → x ∈ A → x ∈ A.reverse.dropLast ∨ x ∈ B.reverse.dropLast := by
      intro A B hB hm hx
      cases A with
      | nil => simp at hx
      | cons a A =>
        rcases List.mem_cons.1 hx with rfl | hx
        · right
          have hr : B.reverse.head? = some x := by rw [List.head?_reverse, ← hm]; rfl
          cases hq : B.reverse with
          | nil => rw [hq] at hr; simp at hr
          | cons y Y =>
            rw [hq] at hr
            have : y = x := by simpa using hr
            subst this
            cases Y with
            | nil => have := congrArg List.length hq; simp at this; omega
            | cons z Z => simp
        · left
          rw [List.reverse_cons, List.dropLast_concat]
          simpa using hx
    rw [List.mem_append]
    rcases hx with hx | hx
    · exact key ul m1 hx
    · exact (key tl m2 hx).symm
/-- The i-th part, in its order. -/
def partS (l : Pts) (i : Nat) : Pts := disL ((l.drop (8 * i)).take 8)
/-- The corners of the parts. -/
def cornersL (l : Pts) : Pts := cat (fun i => ringL (partS l i)) ((l.length + 7) / 8)
def hullS (l : Pts) : Pts := disL (cornersL l)
section
variable {l : Pts}
theorem part_is (hc : ∀ x ∈ l, CdP x) (i : Nat) : IsDis ((l.drop (8 * i)).take 8) (partS l i) := disL_is fun x hx => hc x (List.mem_of_mem_drop (List.mem_of_mem_take hx))
theorem corner_sub (hc : ∀ x ∈ l, CdP x) {x : Pt} (h : x ∈ cornersL l) : x ∈ l := by
  obtain ⟨i, _, h2⟩ := cat_sub h
  exact List.mem_of_mem_drop (List.mem_of_mem_take (((part_is hc i).mem x).1 (ring_sub h2)))
theorem corner_cd (hc : ∀ x ∈ l, CdP x) : ∀ x ∈ cornersL l, CdP x := fun x hx => hc x (corner_sub hc hx)
theorem hull_is (hc : ∀ x ∈ l, CdP x) : IsDis (cornersL l) (hullS l) := disL_is (corner_cd hc)
theorem in_part {x : Pt} (h : x ∈ l) : ∃ i, i < (l.length + 7) / 8 ∧ x ∈ (l.drop (8 * i)).take 8 := by
  obtain ⟨n, hn, rfl⟩ := List.mem_iff_getElem.1 h
  refine ⟨n / 8, by omega, ?_⟩
  have e : l[n] = ((l.drop (8 * (n / 8))).take 8)[n % 8]'(by simp; omega) := by
    simp only [List.getElem_take, List.getElem_drop]
    congr 1
    omega
  rw [e]
  exact List.getElem_mem _
theorem in_corners {x : Pt} {i : Nat} (hi : i < (l.length + 7) / 8) (h : x ∈ ringL (partS l i)) : x ∈ cornersL l := by
  simp only [cornersL, cat, List.mem_flatMap, List.mem_range]
  exact ⟨i, hi, h⟩
/-- What holds of the corners of the parts holds of all. -/
theorem all_left (hc : ∀ x ∈ l, CdP x) {u v : Pt} (h : ∀ c ∈ cornersL l, 0 ≤ D u v c) {x : Pt} (hx : x ∈ l) : 0 ≤ D u v x := by
  obtain ⟨i, hi, hx⟩ := in_part hx
  have hs := part_is hc i
  have hx' := (hs.mem x).2 hx
  have hne : partS l i ≠ [] := fun e => by rw [e] at hx'; simp at hx'
  rcases Int.le_total (K u) (K v) with huv | huv
  · exact enough affDK (there_ok hs.rising hne) huv (fun c hcm => h c (in_corners hi (ring_has hs.rising (.inl hcm)))) hx'
  · exact enough affDK.neg (back_ok hs.rising hne) (by omega) (fun c hcm => h c (in_corners hi (ring_has hs.rising (.inr hcm)))) hx'
/-- The least and the greatest are corners. -/
theorem all_low (hc : ∀ x ∈ l, CdP x) {k : Int} (h : ∀ c ∈ cornersL l, k ≤ K c) {x : Pt} (hx : x ∈ l) : k ≤ K x := by
  obtain ⟨i, hi, hx⟩ := in_part hx
  have hs := part_is hc i
  have hx' := (hs.mem x).2 hx
  have hne : partS l i ≠ [] := fun e => by rw [e] at hx'; simp at hx'
  have hw := there_ok hs.rising hne
  cases hm : (wayOf D (partS l i)).getLast? with
  | none => exact absurd (List.getLast?_eq_none_iff.1 hm) hw.some
  | some m =>
    have h1 := (hw.low m hm x hx').1
    have h2 := h m (in_corners hi (ring_has hs.rising (.inl (List.mem_of_getLast? hm))))
    omega
theorem all_top (hc : ∀ x ∈ l, CdP x) {k : Int} (h : ∀ c ∈ cornersL l, K c ≤ k) {x : Pt} (hx : x ∈ l) : K x ≤ k := by
  obtain ⟨i, hi, hx⟩ := in_part hx
  have hs := part_is hc i
  have hx' := (hs.mem x).2 hx
  have hne : partS l i ≠ [] := fun e => by rw [e] at hx'; simp at hx'
  have hw := there_ok hs.rising hne
  cases hm : wayOf D (partS l i) with
  | nil => exact absurd hm hw.some
  | cons t r =>
    have h1 := hw.top t r hm x hx'
    have h2 := h t (in_corners hi (ring_has hs.rising (.inl (by rw [hm]; simp))))
    omega
theorem hull_ne (hc : ∀ x ∈ l, CdP x) (hl : l ≠ []) : hullS l ≠ [] := by
  intro e
  cases l with
  | nil => exact hl rfl
  | cons a t =>
    have hs := hull_is hc
    have h : ∀ c ∈ cornersL (a :: t), K a + 1 ≤ K c := fun c hcm => by
      have := (hs.mem c).2 hcm
      rw [e] at this
      simp at this
    have := all_low hc h (x := a) (by simp)
    omega
/-- The way there is one round all points. -/
theorem hull_there (hc : ∀ x ∈ l, CdP x) (hl : l ≠ []) : WayOK D K (· ∈ l) (wayOf D (hullS l)) := by
  have hs := hull_is hc
  have hw := there_ok hs.rising (hull_ne hc hl)
  have hsub : ∀ x ∈ wayOf D (hullS l), x ∈ l := fun x hx => corner_sub hc ((hs.mem x).1 (hw.part x hx))
  refine ⟨hw.turns, hw.falls, fun x hx => LeftOf.of fun i u v h1 h2 => ?_, hsub, hw.some, fun t r e x hx => ?_, fun m hm x hx => ?_⟩
  · exact all_left hc (fun c hcm => (hw.left c ((hs.mem c).2 hcm)).get i h1 h2) hx
  · exact all_top hc (fun c hcm => hw.top t r e c ((hs.mem c).2 hcm)) hx
  · exact ⟨all_low hc (fun c hcm => (hw.low m hm c ((hs.mem c).2 hcm)).1) hx, fun e => K_inj (hc x hx) (hc m (hsub m (List.mem_of_getLast? hm))) e⟩
theorem hull_back (hc : ∀ x ∈ l, CdP x) (hl : l ≠ []) : WayOK D (fun x => -K x) (· ∈ l) (wayOf D (hullS l).reverse) := by
  have hs := hull_is hc
  have hw := back_ok hs.rising (hull_ne hc hl)
  have hsub : ∀ x ∈ wayOf D (hullS l).reverse, x ∈ l := fun x hx => corner_sub hc ((hs.mem x).1 (hw.part x hx))
  refine ⟨hw.turns, hw.falls, fun x hx => LeftOf.of fun i u v h1 h2 => ?_, hsub, hw.some, fun t r e x hx => ?_, fun m hm x hx => ?_⟩
  · exact all_left hc (fun c hcm => (hw.left c ((hs.mem c).2 hcm)).get i h1 h2) hx
  · have := all_low hc (k := K t) (fun c hcm => by have := hw.top t r e c ((hs.mem c).2 hcm); omega) hx
    omega
  · have := all_top hc (k := K m) (fun c hcm => by have := (hw.low m hm c ((hs.mem c).2 hcm)).1; omega) hx
    exact ⟨by omega, fun e => K_inj (hc x hx) (hc m (hsub m (List.mem_of_getLast? hm))) (by omega)⟩
end
end Go.Proofs.Ytgeoffpcmkofkaa
