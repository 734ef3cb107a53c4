/- The ways, by places. (Pure.) -/
import Derived.Test.YtgeoffpcmkofkaaHc
namespace Go.Proofs.Ytgeoffpcmkofkaa
section
variable {α : Type} {D : α → α → α → Int} {K : α → Int}
theorem Turns.get : ∀ {l : List α}, Turns D l → ∀ (i : Nat) {a b c : α}, l[i]? = some c → l[i + 1]? = some b → l[i + 2]? = some a → 0 < D a b c
  | [], _, i, _, _, _, h, _, _ => by simp at h
  | [_], _, 0, _, _, _, _, h, _ => by simp at h
  | [_], _, i + 1, _, _, _, h, _, _ => by simp at h
  | [_, _], _, 0, _, _, _, _, _, h => by simp at h
  | [_, _], _, i + 1, _, _, _, _, h, _ => by simp at h
  | c :: b :: a :: l, ht, 0, a', b', c', h1, h2, h3 => by
    simp at h1 h2 h3
    subst h1 h2 h3
    exact ht.1
  | c :: b :: a :: l, ht, i + 1, a', b', c', h1, h2, h3 => ht.2.get i (by simpa using h1) (by simpa using h2) (by simpa using h3)
theorem LeftOf.get {x : α} : ∀ {l : List α}, LeftOf D x l → ∀ (i : Nat) {u v : α}, l[i]? = some v → l[i + 1]? = some u → 0 ≤ D u v x
  | [], _, i, _, _, h, _ => by simp at h
  | [_], _, 0, _, _, _, h => by simp at h
  | [_], _, i + 1, _, _, h, _ => by simp at h
  | v :: u :: l, hl, 0, u', v', h1, h2 => by
    simp at h1 h2
    subst h1 h2
    exact hl.1
  | v :: u :: l, hl, i + 1, u', v', h1, h2 => hl.2.get i (by simpa using h1) (by simpa using h2)
theorem Falls.get : ∀ {l : List α}, Falls K l → ∀ (i : Nat) {u v : α}, l[i]? = some v → l[i + 1]? = some u → K u < K v
  | [], _, i, _, _, h, _ => by simp at h
  | [_], _, 0, _, _, _, h => by simp at h
  | [_], _, i + 1, _, _, h, _ => by simp at h
  | v :: u :: l, hl, 0, u', v', h1, h2 => by
    simp at h1 h2
    subst h1 h2
    exact hl.1
  | v :: u :: l, hl, i + 1, u', v', h1, h2 => hl.2.get i (by simpa using h1) (by simpa using h2)
/-- Read from its first point: rising, left turns, no point to the right. -/
structure Rises (D : α → α → α → Int) (K : α → Int) (Seen : α → Prop) (r : List α) : Prop where
  turns : ∀ (i : Nat) (a b c : α), r[i]? = some a → r[i + 1]? = some b → r[i + 2]? = some c → 0 < D a b c
  left : ∀ (i : Nat) (u v x : α), r[i]? = some u → r[i + 1]? = some v → Seen x → 0 ≤ D u v x
  rise : ∀ (i : Nat) (u v : α), r[i]? = some u → r[i + 1]? = some v → K u < K v
  part : ∀ x ∈ r, Seen x
theorem WayOK.rises {Seen : α → Prop} {way : List α} (h : WayOK D K Seen way) : Rises D K Seen way.reverse := by
  have rv : ∀ (j : Nat) (z : α), way.reverse[j]? = Option.some z → j < way.length ∧ way[way.length - 1 - j]? = Option.some z := by
    intro j z hz
    have hlt : j < way.length := by
      have := (List.getElem?_eq_some_iff.1 hz).1
      simpa using this
    rw [List.getElem?_reverse hlt] at hz
    exact ⟨hlt, hz⟩
  refine ⟨fun i a b c h1 h2 h3 => ?_, fun i u v x h1 h2 hx => ?_, fun i u v h1 h2 => ?_, fun x hx => h.part x (by simpa using hx)⟩
  · obtain ⟨l1, e1⟩ := rv _ _ h1
    obtain ⟨l2, e2⟩ := rv _ _ h2
    obtain ⟨l3, e3⟩ := rv _ _ h3
    exact h.turns.get (way.length - 1 - (i + 2)) e3 (by rw [show way.length - 1 - (i + 2) + 1 = way.length - 1 - (i + 1) by omega]; exact e2) (by rw [show way.length - 1 - (i + 2) + 2 = way.length - 1 - i by omega]; exact e1)
  · obtain ⟨l1, e1⟩ := rv _ _ h1
    obtain ⟨l2, e2⟩ := rv _ _ h2
    exact (h.left x hx).get (way.length - 1 - (i + 1)) e2 (by rw [show way.length - 1 - (i + 1) + 1 = way.length - 1 - i by omega]; exact e1)
  · obtain ⟨l1, e1⟩ := rv _ _ h1
    obtain ⟨l2, e2⟩ := rv _ _ h2
    exact h.falls.get (way.length - 1 - (i + 1)) e2 (by rw [show way.length - 1 - (i + 1) + 1 = way.length - 1 - i by omega]; exact e1)
end
end Go.Proofs.Ytgeoffpcmkofkaa
