/- What Triangulate answers at this commit, as the law Same asks for it. -/
import Derived.Test.YtgeoffpcmkofkaaGreatRn
import Derived.Test.YtgeoffpcmkofkaaGreatZa
namespace Go.Proofs.YtgeoffpcmkofkaaGreat
open Go.RowKit Go.Maps Fl
set_option maxRecDepth 100000

theorem flatT_eq : ∀ l : List Tri, flatT l = l.flatMap encT
  | [] => rfl
  | t :: l => by simp [flatT, encT, flatT_eq l]

theorem tri_now : TriSays triOf := by
  refine ⟨triOf_len, fun l h => triOf_bad h, fun g cap l w hp hg _ _ => ?_⟩
  refine (tri_some g cap l w hp hg).mono ?_
  rintro e w' ⟨v, rfl, h⟩
  refine ⟨v, rfl, h.out.1, ?_⟩
  rw [flatT_eq]
  exact h.out.2.2

end Go.Proofs.YtgeoffpcmkofkaaGreat
