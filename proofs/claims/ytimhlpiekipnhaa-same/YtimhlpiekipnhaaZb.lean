/- What Triangulate answers at this commit: nothing, and P3's errors. -/
import Derived.Test.YtimhlpiekipnhaaZa
namespace Go.Proofs.Ytimhlpiekipnhaa
open Go.RowKit Fl
set_option maxRecDepth 100000

set_option maxHeartbeats 800000 in
theorem tri_now : TriSays (fun _ => []) := by
  refine ⟨fun _ => by simp, fun _ _ => rfl, fun g cap l w hp hg hc hs => ?_⟩
  have HP : Hid (PolyAt w (some ⟨g, 0, none⟩) l) := fun _ => ⟨g, 0, rfl, hp, hg⟩
  clear hp
  go_enter Try.func37, Try.ntmps37
  go_wp2_with fail
  refine (checkList_any (some ⟨g, 0, none⟩) cap l _ HP.out hc (by omega)).mono ?_
  rintro e w1 ⟨rfl, H1⟩
  go_wp2_with fail
  go_ret2
  exact ⟨_, rfl, H1.out, World.ownsRow_nil _ _ _ _⟩

end Go.Proofs.Ytimhlpiekipnhaa
