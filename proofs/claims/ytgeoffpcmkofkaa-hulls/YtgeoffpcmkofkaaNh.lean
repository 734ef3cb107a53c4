/- plumbref's 'Hull' of any list. -/
import Derived.Test.YtgeoffpcmkofkaaNg
namespace Go.Proofs.Ytgeoffpcmkofkaa
open Go.RowKit Fl Go.Lib
set_option maxRecDepth 100000

set_option maxHeartbeats 400000 in
theorem refHull_none (ao : Option Addr) (cap : Nat) (w : World) :
    Calls Try.prog 31 #[.slice ao 0 cap] w fun e w' => e = .returned (.slice none 0 0) ∧ Hid (New w w') := by
  go_enter Try.func31, Try.ntmps31
  go_wp2_with fail
  go_loopw [3, 4] (fun v i wr => v = .slice none 0 0 ∧ i = .int .i64 0 ∧ w = wr) (fun _ _ _ => 0)
  case atStart => exact ⟨rfl, rfl, rfl⟩
  case round =>
    obtain ⟨rfl, rfl, rfl⟩ := hrel
    go_wp2_with fail
    go_ret
    exact ⟨rfl, New.refl _⟩
theorem goRound_len (l : Pts) (cs : List Nat) : ∀ (k a : Nat), (goRound l cs a k).length = k
  | 0, _ => rfl
  | k + 1, a => by unfold goRound; rw [List.length_cons, goRound_len l cs k]
theorem refHull_len (l : Pts) : (refHull l).length ≤ l.length := by
  have h := cornersTo_len l l.length
  unfold refHull
  split
  · split
    · simp
    · rename_i hn
      have := List.length_pos_iff.2 hn
      simp
      omega
  · rename_i c cs e
    rw [e] at h
    rw [goRound_len]
    exact h
/-- .. of any list. -/
theorem refHull_poly (ao : Option Addr) (cap : Nat) (l : Pts) (w : World) (h : PolyAt w ao l) (hl : l.length ≤ 1000) (hc : ∀ x ∈ l, CdP x) :
    Calls Try.prog 31 #[.slice ao l.length cap] w fun e w' => ∃ v, e = .returned v ∧ Hid (New w w' ∧ OwnN w' w.heap.size v (refHull l)) := by
  by_cases hn : l = []
  · subst hn
    refine (refHull_none ao cap w).mono ?_
    rintro e w' ⟨rfl, H⟩
    exact ⟨_, rfl, H.out, by simpa [refHull, cornersTo] using OwnN.nil w' w.heap.size⟩
  · obtain ⟨g, off, rfl, hp, hg⟩ := h (List.length_pos_iff.2 hn)
    exact refHull_any g off cap l w hp hg hl hc
end Go.Proofs.Ytgeoffpcmkofkaa
