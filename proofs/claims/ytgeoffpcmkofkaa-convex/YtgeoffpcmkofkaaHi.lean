/- The plane of the program's points, and the list of points in their order. -/
import Derived.Test.YtgeoffpcmkofkaaQi
import Derived.Test.YtgeoffpcmkofkaaHh
namespace Go.Proofs.Ytgeoffpcmkofkaa
open Go Go.RowKit Fl

theorem plDK : Pl D K where
  rot a b c := by simp only [D, det]; grind
  swp a b c := by simp only [D, det]; grind
  pl s t p x := by simp only [D, det, K]; grind
theorem affDK : Aff D K := fun u v a b x => by simp only [D, det, K]; grind

/-- The points of a list in their order, each once. -/
def disL (l : Pts) : Pts := ddN (l.mergeSort fun x y => decide (K x ≤ K y)) l.length
theorem disL_is {l : Pts} (hc : ∀ x ∈ l, CdP x) : IsDis l (disL l) := by
  have hp : (l.mergeSort fun x y => decide (K x ≤ K y)).Perm l := List.mergeSort_perm l _
  have hs : (l.mergeSort fun x y => decide (K x ≤ K y)).Pairwise fun x y => K x ≤ K y := by
    have := List.pairwise_mergeSort (le := fun x y => decide (K x ≤ K y)) (fun a b c h1 h2 => by simp at *; omega) (fun a b => by simp; omega) l
    exact this.imp fun h => by simpa using h
  have hl := hp.length_eq
  have h := ddN_dis hs (fun x hx y hy hk => K_inj (hc x (hp.mem_iff.1 hx)) (hc y (hp.mem_iff.1 hy)) hk) l.length (by omega)
  refine ⟨h.1, fun x => ?_, ddN_le _ _⟩
  unfold disL
  rw [h.2, List.take_of_length_le (by omega)]
  exact hp.mem_iff
end Go.Proofs.Ytgeoffpcmkofkaa
