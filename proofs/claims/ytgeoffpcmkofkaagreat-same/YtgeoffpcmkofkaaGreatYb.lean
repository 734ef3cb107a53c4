/- The walk of 'Sorted' of package order. -/
import Derived.Test.YtgeoffpcmkofkaaGreatYa
import Derived.Test.YtgeoffpcmkofkaaGreatXc
namespace Go.Proofs.YtgeoffpcmkofkaaGreat
open Go.RowKit Fl
set_option maxRecDepth 100000
attribute [local go_sem ↓] Go.wp_at_zero Go.wp_at_succ

theorem set_other {W : World} {b k i o : Nat} {x : Value} (h : k ≠ b) : (W.setCell ⟨b, i, none⟩ x).cell? ⟨k, o, none⟩ = W.cell? ⟨k, o, none⟩ :=
  World.cell?_of_block (a := ⟨k, o, none⟩) (heap_setCell_other W ⟨b, i, none⟩ k x h)
theorem New.set {w w1 : World} (h : New w w1) {b o : Nat} (hb : w.heap.size ≤ b) (x : Value) : New w (w1.setCell ⟨b, o, none⟩ x) :=
  Below.new' ((New.below' h).setCell (p := ⟨b, o, none⟩) hb x)
theorem drew_cell {W : World} {a : Addr} : W.drew.cell? a = W.cell? a := rfl


theorem cd_cases (n : Int) : (n < -9007199254740992 ∧ cdB n = false) ∨ (9007199254740992 < n ∧ cdB n = false) ∨ (-9007199254740992 ≤ n ∧ n ≤ 9007199254740992 ∧ cdB n = true) := by
  by_cases h1 : n < -9007199254740992
  · exact Or.inl ⟨h1, by simp [cdB]; omega⟩
  · by_cases h2 : 9007199254740992 < n
    · exact Or.inr (Or.inl ⟨h2, by simp [cdB]; omega⟩)
    · exact Or.inr (Or.inr ⟨by omega, by omega, by simp [cdB]; omega⟩)
theorem New.kept {w1 w2 : World} (h : New w1 w2) {b o : Nat} {v : Value} (hc : w1.cell? ⟨b, o, none⟩ = some v) : w2.cell? ⟨b, o, none⟩ = some v :=
  (h.rule b o (World.block_lt_of_cell? w1 _ hc)).trans hc
theorem behind2 {w1 : World} {b o : Nat} {v : Value} (hc : w1.cell? ⟨b, o, none⟩ = some v) : ∀ o1 o2, ((w1.alloc o1).alloc o2).cell? ⟨b, o, none⟩ = some v := fun o1 o2 => ((New.alloc w1 o1).alloc' o2).kept hc

end Go.Proofs.YtgeoffpcmkofkaaGreat
