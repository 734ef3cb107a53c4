/- A region of 'flip' that draws its order, by an invariant: two look-ups, laid into two new variables. -/
import Derived.Test.YtgeoffpcmkofkaaGreatNb
import Derived.Test.YtgeoffpcmkofkaaGreatWx
import Derived.Deep.DeepCutAuto
namespace Go.Proofs.YtgeoffpcmkofkaaGreat
open Go.RowKit Go.Maps Fl
set_option maxRecDepth 100000

theorem pair_cell0 {w : World} {b : Nat} {x y : Value} {t : TypeId} (h : w.heap[b]? = some (.cells #[x, y] t (0, 0))) : w.cell? ⟨b, 0, none⟩ = some x := by simp [World.cell?, h]
theorem pair_cell1 {w : World} {b : Nat} {x y : Value} {t : TypeId} (h : w.heap[b]? = some (.cells #[x, y] t (0, 0))) : w.cell? ⟨b, 1, none⟩ = some y := by simp [World.cell?, h]
theorem pair_free {w : World} {b o : Nat} {x y : Value} {t : TypeId} (h : w.heap[b]? = some (.cells #[x, y] t (0, 0))) : w.frozen? ⟨b, o, none⟩ = false := by simp [World.frozen?, h]
theorem pair_set1 {w : World} {b : Nat} {x y u : Value} {t : TypeId} (h : w.heap[b]? = some (.cells #[x, y] t (0, 0))) : (w.setCell ⟨b, 1, none⟩ u).heap[b]? = some (.cells #[x, u] t (0, 0)) := by
  have hlt := lt_of_block h
  have h' : w.heap[b] = .cells #[x, y] t (0, 0) := by simpa [Array.getElem?_eq_getElem hlt] using h
  show (w.heap.modify b _)[b]? = _
  rw [Array.getElem?_eq_getElem (by simpa using hlt), Array.getElem_modify_self, h']
  rfl
theorem pair_set0 {w : World} {b : Nat} {x y u : Value} {t : TypeId} (h : w.heap[b]? = some (.cells #[x, y] t (0, 0))) : (w.setCell ⟨b, 0, none⟩ u).heap[b]? = some (.cells #[u, y] t (0, 0)) := by
  have hlt := lt_of_block h
  have h' : w.heap[b] = .cells #[x, y] t (0, 0) := by simpa [Array.getElem?_eq_getElem hlt] using h
  show (w.heap.modify b _)[b]? = _
  rw [Array.getElem?_eq_getElem (by simpa using hlt), Array.getElem_modify_self, h']
  rfl
def updN {n : Nat} (f : Fin n → Value) (j : Fin n) (v : Value) : Fin n → Value := fun i => if i = j then v else f i
def zp : Array Value := #[.int .i64 0, .int .i64 0]
def pp (p : Pt) : Array Value := #[.int .i64 p.1, .int .i64 p.2]

/-- What is known when the operations that are listed have come up. -/
structure Duo (W w : World) (x : Fin 2 → Pt) (t : Fin 7 → Value) (listed : Array Bool) (p : Fin 2 → Value) (q : Fin 7 → Value) : Prop where
  new : New W w
  val : ∀ j : Fin 7, listed.getD j.val false = true → q j = t j
  ptr : ∀ j : Fin 2, listed.getD (7 + j.val) false = true → ∃ b, p j = .pointer (some ⟨b, 0, none⟩) ∧ W.heap.size ≤ b ∧
    (listed.getD (9 + j.val) false = false → w.heap[b]? = some (.cells zp 36 (0, 0))) ∧ (listed.getD (9 + j.val) false = true → w.heap[b]? = some (.cells (pp (x j)) 36 (0, 0)))
  dis : ∀ i j : Fin 2, i ≠ j → listed.getD (7 + i.val) false = true → listed.getD (7 + j.val) false = true → p i ≠ p j
  ord : ∀ j : Fin 2, listed.getD (9 + j.val) false = true → listed.getD (7 + j.val) false = true

section
variable {W w w' : World} {x : Fin 2 → Pt} {t : Fin 7 → Value} {listed : Array Bool} {p : Fin 2 → Value} {q : Fin 7 → Value}
theorem Duo.start (hn : New W w) (n : Nat) : Duo W w x t (Array.replicate n false) p q := by
  have h : ∀ k, (Array.replicate n false).getD k false = false := by
    intro k
    by_cases hk : k < n <;> simp [Array.getD, hk]
  refine ⟨hn, fun j hj => ?_, fun j hj => ?_, fun i j _ hi => ?_, fun j hj => ?_⟩
  · rw [h] at hj; cases hj
  · rw [h] at hj; cases hj
  · rw [h] at hi; cases hi
  · rw [h] at hj; cases hj

theorem Duo.ord_set (h : ∀ j : Fin 2, listed.getD (9 + j.val) false = true → listed.getD (7 + j.val) false = true) {i : Nat} (hi : listed.getD i true = false) (hne : ∀ k : Fin 2, 9 + k.val ≠ i) :
    ∀ j : Fin 2, (listed.setIfInBounds i true).getD (9 + j.val) false = true → (listed.setIfInBounds i true).getD (7 + j.val) false = true := by
  intro j hj
  rw [getD_set hi, if_neg (hne j)] at hj
  rw [getD_set hi, h j hj]
  split <;> rfl

/-- A value has come up. -/
theorem Duo.qq (h : Duo W w x t listed p q) (j : Fin 7) (hi : listed.getD j.val true = false) (hn : New w w') {v : Value} (hv : v = t j) : Duo W w' x t (listed.setIfInBounds j.val true) p (updN q j v) := by
  refine ⟨h.new.trans' hn, fun k hk => ?_, fun k hk => ?_, fun a b hab ha hb => ?_, Duo.ord_set h.ord hi (by intro k; omega)⟩
  · by_cases hkj : k = j
    · subst hkj; simp only [updN, if_true]; exact hv
    · rw [getD_set hi, if_neg (by intro e; apply hkj; apply Fin.ext; omega)] at hk
      simp only [updN, if_neg hkj]
      exact h.val k hk
  · rw [getD_set hi, if_neg (by omega)] at hk
    rw [getD_set hi, if_neg (by omega)]
    obtain ⟨b, h1, h2, h3, h4⟩ := h.ptr k hk
    refine ⟨b, h1, h2, fun hs => ?_, fun hs => ?_⟩
    · have := h3 hs
      rw [hn.block _ (lt_of_block this) (by simp)]; exact this
    · have := h4 hs
      rw [hn.block _ (lt_of_block this) (by simp)]; exact this
  · rw [getD_set hi, if_neg (by omega)] at ha hb; exact h.dis a b hab ha hb

/-- A variable has been made. -/
theorem Duo.a (h : Duo W w x t listed p q) (j : Fin 2) (hi : listed.getD (7 + j.val) true = false) :
    Duo W (w.alloc (.cells zp 36)) x t (listed.setIfInBounds (7 + j.val) true) (updN p j (.pointer (some ⟨w.heap.size, 0, none⟩))) q := by
  have hn : New w (w.alloc (.cells zp 36)) := New.alloc w _
  have hst : listed.getD (9 + j.val) false = false := by
    rcases Bool.eq_false_or_eq_true (listed.getD (9 + j.val) false) with hs | hs
    · have h1 := h.ord j hs
      have h2 : listed.getD (7 + j.val) true = true := by
        by_cases hs : 7 + j.val < listed.size
        · simpa [Array.getD, hs] using h1
        · simp [Array.getD, hs]
      rw [h2] at hi; cases hi
    · exact hs
  have old : ∀ k : Fin 2, k ≠ j → (listed.setIfInBounds (7 + j.val) true).getD (7 + k.val) false = true → listed.getD (7 + k.val) false = true := by
    intro k hkj hk
    rwa [getD_set hi, if_neg (by intro e; apply hkj; apply Fin.ext; omega)] at hk
  have lt : ∀ k : Fin 2, listed.getD (7 + k.val) false = true → ∃ b, p k = .pointer (some ⟨b, 0, none⟩) ∧ b < w.heap.size := by
    intro k hk
    obtain ⟨b, h1, _, h3, h4⟩ := h.ptr k hk
    refine ⟨b, h1, ?_⟩
    rcases Bool.eq_false_or_eq_true (listed.getD (9 + k.val) false) with hs | hs
    · exact lt_of_block (h4 hs)
    · exact lt_of_block (h3 hs)
  refine ⟨h.new.trans' hn, fun k hk => ?_, fun k hk => ?_, fun a b hab ha hb => ?_, Duo.ord_set h.ord hi (by intro k; omega)⟩
  · rw [getD_set hi, if_neg (by omega)] at hk; exact h.val k hk
  · by_cases hkj : k = j
    · subst hkj
      rw [getD_set hi, if_neg (by omega), hst]
      refine ⟨w.heap.size, by simp [updN], h.new.size, fun _ => _root_.Go.heap_alloc_new w _, fun hs => by cases hs⟩
    · obtain ⟨b, h1, h2, h3, h4⟩ := h.ptr k (old k hkj hk)
      rw [getD_set hi, if_neg (by omega)]
      refine ⟨b, by simp only [updN, if_neg hkj]; exact h1, h2, fun hs => ?_, fun hs => ?_⟩
      · have := h3 hs
        rw [hn.block _ (lt_of_block this) (by simp)]; exact this
      · have := h4 hs
        rw [hn.block _ (lt_of_block this) (by simp)]; exact this
  · by_cases haj : a = j
    · by_cases hbj : b = j
      · exact absurd (haj.trans hbj.symm) hab
      · obtain ⟨c, e, hc⟩ := lt b (old b hbj hb)
        subst haj
        simp only [updN, if_true, if_neg hbj]
        rw [e]
        intro k
        simp at k <;> omega
    · obtain ⟨c, e, hc⟩ := lt a (old a haj ha)
      by_cases hbj : b = j
      · subst hbj
        simp only [updN, if_true, if_neg haj]
        rw [e]
        intro k
        simp at k <;> omega
      · simp only [updN, if_neg haj, if_neg hbj]
        exact h.dis a b hab (old a haj ha) (old b hbj hb)

/-- A variable has been written. -/
theorem Duo.s (h : Duo W w x t listed p q) (j : Fin 2) (hi : listed.getD (9 + j.val) true = false) {b : Nat} (hp : p j = .pointer (some ⟨b, 0, none⟩)) (hz : w.heap[b]? = some (.cells zp 36 (0, 0))) (hW : W.heap.size ≤ b) (ha : listed.getD (7 + j.val) false = true) :
    Duo W ((w.setCell ⟨b, 0, none⟩ (.int .i64 (x j).1)).setCell ⟨b, 1, none⟩ (.int .i64 (x j).2)) x t (listed.setIfInBounds (9 + j.val) true) p q := by
  have hset : ((w.setCell ⟨b, 0, none⟩ (.int .i64 (x j).1)).setCell ⟨b, 1, none⟩ (.int .i64 (x j).2)).heap[b]? = some (.cells (pp (x j)) 36 (0, 0)) := pair_set1 (pair_set0 hz)
  have hoth : ∀ c, c ≠ b → ((w.setCell ⟨b, 0, none⟩ (.int .i64 (x j).1)).setCell ⟨b, 1, none⟩ (.int .i64 (x j).2)).heap[c]? = w.heap[c]? := fun c hc => by
    rw [heap_setCell_other _ ⟨b, 1, none⟩ c _ hc, heap_setCell_other _ ⟨b, 0, none⟩ c _ hc]
  refine ⟨(h.new.set hW _).set hW _, fun k hk => ?_, fun k hk => ?_, fun a c hac hha hhc => ?_, fun k hk => ?_⟩
  · rw [getD_set hi, if_neg (by omega)] at hk; exact h.val k hk
  · rw [getD_set hi, if_neg (by omega)] at hk
    by_cases hkj : k = j
    · subst hkj
      refine ⟨b, hp, hW, fun hs => ?_, fun _ => hset⟩
      rw [getD_set hi, if_pos rfl] at hs; cases hs
    · obtain ⟨c, h1, h2, h3, h4⟩ := h.ptr k hk
      have hcb : c ≠ b := by
        intro e
        have := h.dis k j hkj hk ha
        rw [h1, hp, e] at this
        exact this rfl
      rw [getD_set hi, if_neg (by intro e; apply hkj; apply Fin.ext; omega)]
      exact ⟨c, h1, h2, fun hs => (hoth c hcb).trans (h3 hs), fun hs => (hoth c hcb).trans (h4 hs)⟩
  · rw [getD_set hi, if_neg (by omega)] at hha hhc; exact h.dis a c hac hha hhc
  · rw [getD_set hi, if_neg (by omega)]
    by_cases hkj : k = j
    · subst hkj; exact ha
    · rw [getD_set hi, if_neg (by intro e; apply hkj; apply Fin.ext; omega)] at hk
      exact h.ord k hk
end

end Go.Proofs.YtgeoffpcmkofkaaGreat
