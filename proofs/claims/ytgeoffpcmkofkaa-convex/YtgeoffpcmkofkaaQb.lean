/- The walks of 'Clone' and 'Compact' of package slices, at points. -/
import Derived.Test.YtgeoffpcmkofkaaQa
import Derived.Deep.RegionHeld3
import Derived.Lib.AppendZeros
namespace Go.Proofs.Ytgeoffpcmkofkaa
open Go.RowKit Fl
set_option maxRecDepth 100000
attribute [local go_sem ↓] Go.wp_at_zero Go.wp_at_succ

theorem New.dr {w w1 : World} (h : New w w1) : New w w1.drew := ⟨h.os, h.tape, h.output, h.size, h.block⟩
theorem zero23 (w : World) : (zeroValue 23).run Try.prog w = .ok (.agg #[.int .i64 0, .int .i64 0]) w := by kernel_rfl
set_option maxHeartbeats 800000 in
theorem clone_nil (w : World) : Calls Try.prog 100 #[.slice none 0 0] w fun e w' => e = .returned (.slice none 0 0) ∧ Hid (New w w') := by
  have h := eq_nil_none w
  go_enter Try.func100, Try.ntmps100
  go_wp2_with fail
  go_ret
  exact ⟨rfl, New.refl _⟩

set_option maxHeartbeats 800000 in
theorem clone_some (g off cap : Nat) (l : Pts) (w : World) (hp : PtsAt w g off l) (hl : l.length ≤ 1000000) :
    Calls Try.prog 100 #[.slice (some ⟨g, off, none⟩) l.length cap] w fun e w' => ∃ v, e = .returned v ∧ v ≠ .slice none 0 0 ∧ Hid (New w w' ∧ OwnP w' w.heap.size v l) := by
  have h := eq_nil_some ⟨g, off, none⟩ l.length cap w
  have HP : Hid (PtsAt w g off l) := hp
  clear hp
  obtain ⟨i0, hi0, hz0, hz1, hz2⟩ := info_parts Try.info23
  have hown : Hid ((w.alloc (.cells #[] 23)).ownsRow w.heap.size 23 2 (.slice (some ⟨w.heap.size, 0, none⟩) 0 0) 0 []) := World.ownsRow_lit w #[] 0 (Nat.le_refl _) (by unfold maxLen; omega) (by simp)
  obtain ⟨vk, wk, k1, k2, k3, k4⟩ := run_append_own (P := Try.prog) (w.alloc (.cells #[] 23)) w.heap.size 28 28 23 i0 _ 2 16 Try.underlying28 hi0 hz0 hz1 hz2 rfl (by omega) _ 0 [] hown.out ⟨g, off, none⟩ l.length cap (l.flatMap encP) (flat_length lenP l)
    (fun j u hu => by rw [← flatP_eq] at hu; exact (New.alloc w _).kept' (pts_cells HP.out j u hu)) (encP_one l) (by unfold maxLen; omega) (by omega) (by simp)
  rw [Nat.zero_add, List.nil_append] at k2
  have HK : Hid (wk.ownsRow w.heap.size 23 2 vk l.length (l.flatMap encP) ∧ (w.alloc (.cells #[] 23)).grownBy wk (some w.heap.size) ∧ vk ≠ .slice none 0 0) := ⟨k2, k3, fun e => by have := (k4.1 e).1; simp at this⟩
  clear k2 k3 k4 hown hi0 hz0 hz1 hz2
  go_enter Try.func100, Try.ntmps100
  go_wp2_with (first | (at_builtin; refine Go.Lib.wpList_append_run _ rfl _ _ 28 28 rfl _ _ rfl rfl vk wk k1 ?_) | go_in)
  go_ret
  refine ⟨vk, rfl, HK.out.2.2, ?_, HK.out.1⟩
  have h1 := HK.out.2.1
  exact ⟨h1.os, h1.tape, h1.output, by have := h1.size; simp at this; omega, fun k hk _ => (h1.block k (by simp; omega) (by simp; omega)).trans ((New.alloc w _).block k hk (by simp))⟩

end Go.Proofs.Ytgeoffpcmkofkaa
