/- The walks of 'Clone' and 'Compact' of package slices, at points. -/
import Derived.Test.YtgeoffpcmkofkaaGreatQa
import Derived.Deep.RegionHeld3
namespace Go.Proofs.YtgeoffpcmkofkaaGreat
open Go.RowKit Fl
set_option maxRecDepth 100000
attribute [local go_sem ↓] Go.wp_at_zero Go.wp_at_succ

set_option maxHeartbeats 800000 in
theorem clone_nil (w : World) : Calls Tryz.prog 40 #[.slice none 0 0] w fun e w' => e = .returned (.slice none 0 0) ∧ Hid (New w w') := by
  have h := eq_nil_none w
  go_enter Tryz.func40, Tryz.ntmps40
  go_wp2_with fail
  go_ret
  exact ⟨rfl, New.refl _⟩

set_option maxHeartbeats 800000 in
theorem clone_some (g cap : Nat) (l : Pts) (w : World) (hp : PtsAt w g 0 l) (hl : l.length ≤ 1000000) :
    Calls Tryz.prog 40 #[.slice (some ⟨g, 0, none⟩) l.length cap] w fun e w' => ∃ v, e = .returned v ∧ v ≠ .slice none 0 0 ∧ Hid (New w w' ∧ OwnP w' w.heap.size v l) := by
  have h := eq_nil_some ⟨g, 0, none⟩ l.length cap w
  have HP : Hid (PtsAt w g 0 l) := hp
  clear hp
  obtain ⟨i0, hi0, hz0, hz1, hz2⟩ := info_parts Tryz.info36
  have hown : Hid ((w.alloc (.cells #[] 36)).ownsRow w.heap.size 36 2 (.slice (some ⟨w.heap.size, 0, none⟩) 0 0) 0 []) := World.ownsRow_lit w #[] 0 (Nat.le_refl _) (by unfold maxLen; omega) (by simp)
  obtain ⟨vk, wk, k1, k2, k3, k4⟩ := run_append_own (P := Tryz.prog) (w.alloc (.cells #[] 36)) w.heap.size 22 22 36 i0 _ 2 16 Tryz.underlying22 hi0 hz0 hz1 hz2 rfl (by omega) _ 0 [] hown.out ⟨g, 0, none⟩ l.length cap (l.flatMap encP) (flat_length lenP l)
    (fun j u hu => by rw [← flatP_eq] at hu; exact (New.alloc w _).kept' (pts_cells HP.out j u hu)) (encP_one l) (by unfold maxLen; omega) (by omega) (by simp)
  rw [Nat.zero_add, List.nil_append] at k2
  have HK : Hid (wk.ownsRow w.heap.size 36 2 vk l.length (l.flatMap encP) ∧ (w.alloc (.cells #[] 36)).grownBy wk (some w.heap.size) ∧ vk ≠ .slice none 0 0) := ⟨k2, k3, fun e => by have := (k4.1 e).1; simp at this⟩
  clear k2 k3 k4 hown hi0 hz0 hz1 hz2
  go_enter Tryz.func40, Tryz.ntmps40
  go_wp2_with (first | (at_builtin; refine wpList_append_run rfl _ _ 22 22 rfl _ _ vk wk rfl rfl k1 ?_) | go_in)
  go_ret
  refine ⟨vk, rfl, HK.out.2.2, ?_, HK.out.1⟩
  have h1 := HK.out.2.1
  exact ⟨h1.os, h1.tape, h1.output, by have := h1.size; simp at this; omega, fun k hk _ => (h1.block k (by simp; omega) (by simp; omega)).trans ((New.alloc w _).block k hk (by simp))⟩

end Go.Proofs.YtgeoffpcmkofkaaGreat
