/- The library's sort by a comparison, over rows of points, of directed sides and of triangles. -/
import Derived.Test.YtgeoffpcmkofkaaOa
import Derived.Test.YtgeoffpcmkofkaaSh
import Derived.Test.YtgeoffpcmkofkaaYo
import Derived.Sort.OwnSorted
namespace Go.Proofs.Ytgeoffpcmkofkaa
open Go.RowKit Fl Go.Sort Go.Shelf Go.Lib
set_option maxRecDepth 100000

theorem flat_length {α : Type} {enc : α → List Value} {k : Nat} (hk : ∀ x, (enc x).length = k) : ∀ l : List α, (l.flatMap enc).length = l.length * k
  | [] => by simp
  | x :: l => by simp [List.flatMap_cons, flat_length hk l, hk, Nat.add_mul]; omega
section
variable {α : Type} [Inhabited α] {enc : α → List Value} {k : Nat}
theorem flat_get (hk : ∀ x, (enc x).length = k) : ∀ (l : List α) (t : Nat), t < l.length * k → (l.flatMap enc)[t]? = (enc l.toArray[t / k]!)[t % k]?
  | [], t, h => by simp at h
  | x :: l, t, h => by
    have k0 : 0 < k := by
      rcases Nat.eq_zero_or_pos k with h0 | h0
      · subst h0; simp at h
      · exact h0
    rw [List.flatMap_cons]
    rcases Nat.lt_or_ge t k with h1 | h1
    · rw [List.getElem?_append_left (by rw [hk]; exact h1), Nat.div_eq_of_lt h1, Nat.mod_eq_of_lt h1]
      rfl
    · obtain ⟨d, rfl⟩ := Nat.exists_eq_add_of_le h1
      rw [List.getElem?_append_right (by rw [hk]; exact h1), hk, Nat.add_sub_cancel_left, flat_get hk l d (by simp [Nat.add_mul] at h; omega)]
      rw [Nat.add_div_left _ k0, Nat.add_mod_left]
      simp
theorem flatK_list (hk : ∀ x, (enc x).length = k) (l : List α) : (flatK enc k l.toArray).toList = l.flatMap enc := by
  apply List.ext_getElem?
  intro t
  rcases Nat.lt_or_ge t (l.length * k) with h | h
  · rw [flat_get hk l t h]
    have k0 : 0 < k := by
      rcases Nat.eq_zero_or_pos k with h0 | h0
      · subst h0; simp at h
      · exact h0
    have hm : t % k < (enc l.toArray[t / k]!).length := by rw [hk]; exact Nat.mod_lt _ k0
    have hs : t < (flatK enc k l.toArray).size := by simp [h]
    rw [Array.getElem?_toList, Array.getElem?_eq_getElem hs, List.getElem?_eq_getElem hm]
    have := get_flatK enc k l.toArray t (by simpa using h)
    rw [getElem!_pos (flatK enc k l.toArray) t hs] at this
    rw [this, getElem!_pos (enc l.toArray[t / k]!) (t % k) hm]
  · rw [List.getElem?_eq_none (by simpa using h), List.getElem?_eq_none (by rw [flat_length hk]; exact h)]

theorem holdsK_row (hk : ∀ x, (enc x).length = k) {w : World} {base e g n cap : Nat} {l : List α} (h : w.ownsRow base e k (.slice (some ⟨g, 0, none⟩) n cap) n (l.flatMap enc)) (hl : l.length = n) : HoldsK enc k w g 0 l.toArray := by
  intro j hj
  have hj' : j < n * k := by simpa [hl] using hj
  have hc := h.cellAt j hj'
  rcases h.2 with ⟨h', _⟩ | ⟨g', cap', cur, h', _, hg, _⟩
  · simp at h'
  · simp only [Value.slice.injEq, Option.some.injEq, Addr.mk.injEq, and_true, true_and] at h'
    obtain ⟨rfl, _⟩ := h'
    refine ⟨?_, by simp [World.frozen?, hg]⟩
    rw [Nat.zero_add, hc, ← flatK_list hk, Array.getElem?_toList, Array.getElem?_eq_getElem hj, getElem!_pos _ j hj]
    rfl

/-- What the sort leaves. -/
theorem sorted_row (hk : ∀ x, (enc x).length = k) {w : World} {base e g n cap m : Nat} {os : Array Obj} {l l' : List α} (h : w.ownsRow base e k (.slice (some ⟨g, 0, none⟩) n cap) n (l.flatMap enc)) (hl : l.length = n) (hl' : l'.length = n) :
    (sortWorldK enc k w g 0 m l'.toArray os).ownsRow base e k (.slice (some ⟨g, 0, none⟩) n cap) n (l'.flatMap enc) ∧ w.grownBy (sortWorldK enc k w g 0 m l'.toArray os) (some g) := by
  have hH := holdsK_row hk h hl
  rcases h.2 with ⟨h', _⟩ | ⟨g', cap', cur, h', hb, hg, h3, h4, h5, h6⟩
  · simp at h'
  · simp only [Value.slice.injEq, Option.some.injEq, Addr.mk.injEq, and_true, true_and] at h'
    obtain ⟨rfl, rfl⟩ := h'
    have hlt : g < w.heap.size := (Array.getElem?_eq_some_iff.1 hg).1
    have hheap : (sortWorldK enc k w g 0 m l'.toArray os).heap[g]? = some (.cells (putCells id 0 (flatK enc k l'.toArray) cur) e (0, 0)) := by
      unfold sortWorldK putRowK
      rw [heap_grow_old _ _ (by simpa using hlt)]
      simp [putRow, mapBlock, Sort.ahead, Array.getElem?_modify, hg, onCells]
    have hH' := holdsK_sortWorldK enc k w g 0 m l.toArray l'.toArray os hlt hH (by simp [hl, hl'])
    refine ⟨⟨by rw [flat_length hk, hl'], .inr ⟨g, cap, _, rfl, hb, hheap, h3, h4, by simp [putCells, h5], ?_⟩⟩, rfl, rfl, rfl, ?_, fun j hj hne => ?_⟩
    · apply List.ext_getElem?
      intro j
      rcases Nat.lt_or_ge j (n * k) with hj | hj
      · rw [List.getElem?_take_of_lt hj]
        have := (hH' j (by simp [hl', hj])).1
        rw [Nat.zero_add] at this
        simp only [World.cell?, hheap] at this
        simp only [Option.isSome_none, Bool.false_eq_true, if_false] at this
        rw [Array.getElem?_toList, this]
        have hs : j < (flatK enc k l'.toArray).size := by simp [hl', hj]
        rw [← flatK_list hk, Array.getElem?_toList, Array.getElem?_eq_getElem hs, getElem!_pos _ j hs]
        rfl
      · rw [List.getElem?_eq_none (by simp; omega), List.getElem?_eq_none (by rw [flat_length hk, hl']; exact hj)]
    · unfold sortWorldK putRowK putRow mapBlock grow Sort.ahead; simp
    · unfold sortWorldK putRowK
      rw [heap_grow_old _ _ (by simpa using hj)]
      have : g ≠ j := fun e => hne (by rw [e])
      simp [putRow, mapBlock, Sort.ahead, Array.getElem?_modify, this]

theorem permIn_list {l : List α} {d' : Array α} (h : PermIn 0 l.length l.toArray d') : d'.toList.Perm l ∧ d'.toList.length = l.length := by
  have hs : d'.size = l.length := by simpa using h.1
  have := h.2.2
  have e1 : (d'.extract 0 l.length).toList = d'.toList := by rw [← hs]; simp
  have e2 : (l.toArray.extract 0 l.length).toList = l := by simp
  rw [e1, e2] at this
  exact ⟨this, by simpa using hs⟩
theorem sortedIn_list {lt : α → α → Bool} {d' : Array α} {n : Nat} (hn : d'.size = n) (h : SortedIn lt 0 n d') : d'.toList.Pairwise (fun x y => lt y x = false) := by
  rw [List.pairwise_iff_getElem]
  intro i j hi hj hij
  have := h i j (Nat.zero_le _) hij (by simpa [hn] using hj)
  rw [getElem!_pos d' i (by simpa using hi), getElem!_pos d' j (by simpa using hj)] at this
  simpa using this
end

end Go.Proofs.Ytgeoffpcmkofkaa
