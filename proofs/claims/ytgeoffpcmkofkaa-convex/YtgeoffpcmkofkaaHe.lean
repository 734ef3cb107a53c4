/- The closed way round: its sides and its turns. (Pure.) -/
import Derived.Test.YtgeoffpcmkofkaaHd
namespace Go.Proofs.Ytgeoffpcmkofkaa
section
variable {α : Type} {D : α → α → α → Int} {K : α → Int} {Seen : α → Prop}
/-- There and back again. -/
structure Round (T U : List α) (p q : Nat) : Prop where
  lenT : T.length = p + 1
  lenU : U.length = q + 1
  p1 : 1 ≤ p
  q1 : 1 ≤ q
  join : T[p]? = U[0]?
  close : U[q]? = T[0]?
/-- Each way without its last point. -/
def ring (T U : List α) (p q : Nat) : List α := T.take p ++ U.take q
theorem Round.length {T U : List α} {p q : Nat} (h : Round T U p q) : (ring T U p q).length = p + q := by
  simp only [ring, List.length_append, List.length_take, h.lenT, h.lenU]
  omega
theorem Round.at {T U : List α} {p q : Nat} (h : Round T U p q) {i : Nat} (hi : i < p + q) : (ring T U p q)[i]? = if i < p then T[i]? else U[i - p]? := by
  have hl : (T.take p).length = p := by simp [h.lenT]
  unfold ring
  by_cases hp : i < p
  · rw [List.getElem?_append_left (by rw [hl]; exact hp), List.getElem?_take_of_lt hp, if_pos hp]
  · rw [List.getElem?_append_right (by rw [hl]; omega), hl, List.getElem?_take_of_lt (by omega), if_neg hp]
/-- The place behind, round about. -/
theorem Round.next {T U : List α} {p q : Nat} (h : Round T U p q) {i : Nat} (hi : i < p + q) : (ring T U p q)[(i + 1) % (p + q)]? = if i + 1 ≤ p then T[i + 1]? else U[i + 1 - p]? := by
  have p1 := h.p1
  have q1 := h.q1
  by_cases hn : i + 1 = p + q
  · rw [hn, Nat.mod_self, h.at (by omega), if_pos (by omega), if_neg (by omega), show p + q - p = q by omega, h.close]
  · rw [Nat.mod_eq_of_lt (by omega), h.at (by omega)]
    by_cases h1 : i + 1 < p
    · rw [if_pos h1, if_pos (by omega)]
    · rw [if_neg h1]
      by_cases h2 : i + 1 = p
      · rw [if_pos (by omega), h2, h.join, Nat.sub_self]
      · rw [if_neg (by omega)]
theorem Round.sides {T U : List α} {p q : Nat} (h : Round T U p q) (hT : Rises D K Seen T) (hU : Rises D (fun x => -K x) Seen U) {i : Nat} (hi : i < p + q) {u v : α} (e1 : (ring T U p q)[i]? = some u) (e2 : (ring T U p q)[(i + 1) % (p + q)]? = some v) {x : α} (hx : Seen x) : 0 ≤ D u v x := by
  rw [h.at hi] at e1
  rw [h.next hi] at e2
  by_cases hp : i < p
  · rw [if_pos hp] at e1
    rw [if_pos (by omega)] at e2
    exact hT.left i u v x e1 e2 hx
  · rw [if_neg hp] at e1
    rw [if_neg (by omega)] at e2
    exact hU.left (i - p) u v x e1 (by rw [show i - p + 1 = i + 1 - p by omega]; exact e2) hx
theorem Round.turns (hP : Pl D K) {T U : List α} {p q : Nat} (h : Round T U p q) (hT : Rises D K Seen T) (hU : Rises D (fun x => -K x) Seen U) (h3 : 3 ≤ p + q) {i : Nat} (hi : i < p + q) {a b c : α} (e1 : (ring T U p q)[i]? = some a) (e2 : (ring T U p q)[(i + 1) % (p + q)]? = some b) (e3 : (ring T U p q)[(i + 2) % (p + q)]? = some c) : 0 < D a b c := by
  have p1 := h.p1
  have q1 := h.q1
  have e3' : (ring T U p q)[((i + 1) % (p + q) + 1) % (p + q)]? = some c := by
    rw [Nat.mod_add_mod]; exact e3
  have hj : (i + 1) % (p + q) < p + q := Nat.mod_lt _ (by omega)
  rw [h.next hj] at e3'
  have e2' := e2
  rw [h.next hi] at e2'
  rw [h.at hi] at e1
  have get : ∀ {l : List α} {k : Nat}, k < l.length → ∃ z, l[k]? = some z := fun hk => ⟨_, List.getElem?_eq_getElem hk⟩
  by_cases hp : i + 1 < p
  · -- both in the way there
    rw [if_pos (by omega)] at e1 e2'
    rw [Nat.mod_eq_of_lt (by omega), if_pos (by omega)] at e3'
    exact hT.turns i a b c e1 e2' e3'
  · by_cases hp2 : i + 1 = p
    · -- where the way there ends
      rw [if_pos (by omega)] at e1 e2'
      rw [hp2, Nat.mod_eq_of_lt (by omega), if_neg (by omega), show p + 1 - p = 1 by omega] at e3'
      have e2U : U[0]? = some b := by rw [← h.join, ← hp2]; exact e2'
      refine hP.turn (Seen := Seen) (hT.rise i a b e1 e2') (by have := hU.rise 0 b c e2U e3'; omega) (fun x hx => hT.left i a b x e1 e2' hx) (fun x hx => hU.left 0 b c x e2U e3' hx) (hU.part c (List.mem_of_getElem? e3')) ?_
      by_cases hq : 2 ≤ q
      · obtain ⟨z, hz⟩ := get (l := U) (k := 2) (by rw [h.lenU]; omega)
        exact .inr ⟨z, hU.part z (List.mem_of_getElem? hz), hU.turns 0 b c z e2U e3' hz⟩
      · obtain ⟨z, hz⟩ := get (l := T) (k := i - 1) (by rw [h.lenT]; omega)
        exact .inl ⟨z, hT.part z (List.mem_of_getElem? hz), hT.turns (i - 1) z a b hz (by rw [show i - 1 + 1 = i by omega]; exact e1) (by rw [show i - 1 + 2 = i + 1 by omega]; exact e2')⟩
    · rw [if_neg (by omega)] at e1 e2'
      by_cases hn : i + 1 = p + q
      · -- where the way back ends
        rw [hn, Nat.mod_self, if_pos (by omega)] at e3'
        have e2T : T[0]? = some b := by rw [← h.close, show q = i + 1 - p by omega]; exact e2'
        have e2U : U[i - p + 1]? = some b := by rw [show i - p + 1 = i + 1 - p by omega]; exact e2'
        refine hP.neg.turn (Seen := Seen) (hU.rise (i - p) a b e1 e2U) (by have := hT.rise 0 b c e2T e3'; omega) (fun x hx => hU.left (i - p) a b x e1 e2U hx) (fun x hx => hT.left 0 b c x e2T e3' hx) (hT.part c (List.mem_of_getElem? e3')) ?_
        by_cases hq : 2 ≤ p
        · obtain ⟨z, hz⟩ := get (l := T) (k := 2) (by rw [h.lenT]; omega)
          exact .inr ⟨z, hT.part z (List.mem_of_getElem? hz), hT.turns 0 b c z e2T e3' hz⟩
        · obtain ⟨z, hz⟩ := get (l := U) (k := i - p - 1) (by rw [h.lenU]; omega)
          exact .inl ⟨z, hU.part z (List.mem_of_getElem? hz), hU.turns (i - p - 1) z a b hz (by rw [show i - p - 1 + 1 = i - p by omega]; exact e1) (by rw [show i - p - 1 + 2 = i - p + 1 by omega]; exact e2U)⟩
      · rw [Nat.mod_eq_of_lt (by omega), if_neg (by omega)] at e3'
        exact hU.turns (i - p) a b c e1 (by rw [show i - p + 1 = i + 1 - p by omega]; exact e2') (by rw [show i - p + 2 = i + 1 + 1 - p by omega]; exact e3')
end
end Go.Proofs.Ytgeoffpcmkofkaa
