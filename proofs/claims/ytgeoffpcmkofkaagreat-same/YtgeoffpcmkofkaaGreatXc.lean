/- The walks of package plumbkeep: 'at', 'near', 'fit', 'mirrored', 'turned', 'moved', 'halved', 'side', 'circle'. -/
import Derived.Test.YtgeoffpcmkofkaaGreatWz
namespace Go.Proofs.YtgeoffpcmkofkaaGreat
open Go.RowKit Fl
set_option maxRecDepth 100000

set_option maxHeartbeats 400000 in
theorem at_any (x y : Int) (w : World) : Calls Tryz.prog 13 #[.int .i64 x, .int .i64 y] w fun e w' => e = .returned (.agg #[.int .i64 x, .int .i64 y]) ∧ Hid (New w w') := by
  go_enter Tryz.func13, Tryz.ntmps13
  go_wp2_with fail
  refine bodyPost_ret (v := .agg #[.int .i64 x, .int .i64 y]) (by simp [results, Tryz.results13, go_sem]) rfl ?_
  exact ⟨rfl, New.alloc w _⟩

set_option maxHeartbeats 400000 in
theorem near_yes (n : Int) (w : World) : Calls Tryz.prog 16 #[.int .i64 n, .int .i64 0, .int .i64 n] w fun e w' => e = .returned (.bool true) ∧ w = w' := by
  go_enter Tryz.func16, Tryz.ntmps16
  go_wp2_with fail
  go_ret
  exact ⟨rfl, rfl⟩

theorem fit_neg {n : Int} (h : n < 0) : Cd (wrap64 (-(n + 1).tmod 18014398509481985 - 9007199254740992)) := by
  have e : -(n + 1).tmod 18014398509481985 = (-(n + 1)) % 18014398509481985 := by rw [← Int.neg_tmod, Int.tmod_eq_emod_of_nonneg (by omega)]
  rw [e]
  unfold wrap64 Cd
  omega

set_option maxHeartbeats 400000 in
theorem fit_any (n : Int) (w : World) (h1 : -9223372036854775808 ≤ n) (h2 : n < 9223372036854775808) : Calls Tryz.prog 17 #[.int .i64 n] w fun e w' => ∃ r : Int, e = .returned (.int .i64 r) ∧ Hid (Cd r) ∧ w = w' := by
  by_cases h : n < 0
  · have HF : Hid (Cd _) := fit_neg h
    go_enter Tryz.func17, Tryz.ntmps17
    go_wp2_with fail
    go_ret
    exact ⟨_, rfl, HF, rfl⟩
  · go_enter Tryz.func17, Tryz.ntmps17
    go_wp2_with fail
    go_ret
    exact ⟨_, rfl, by unfold Hid Cd; omega, rfl⟩

set_option maxHeartbeats 800000 in
theorem kside_any (ax ay bx by' cx cy : Int) (w : World) (hok : okB [(ax, ay), (bx, by'), (cx, cy)] = true) :
    Calls Tryz.prog 20 #[.agg #[.int .i64 ax, .int .i64 ay], .agg #[.int .i64 bx, .int .i64 by'], .agg #[.int .i64 cx, .int .i64 cy]] w fun e w' =>
      e = .returned (.int .i64 (sgn (det ax ay bx by' cx cy))) ∧ Hid (New w w') := by
  have HO : Hid (okB [(ax, ay), (bx, by'), (cx, cy)] = true) := hok
  clear hok
  go_enter Tryz.func20, Tryz.ntmps20
  go_wp2_with fail
  refine (side_ok ax ay bx by' cx cy _ HO.out).mono ?_
  rintro e w1 ⟨rfl, H1⟩
  go_wp2_with fail
  go_ret
  exact ⟨rfl, (((New.alloc _ _).alloc' _).alloc' _).trans' H1.out⟩

set_option maxHeartbeats 800000 in
theorem kcircle_any (ax ay bx by' cx cy dx dy : Int) (w : World) (hok : okB [(ax, ay), (bx, by'), (cx, cy), (dx, dy)] = true) :
    Calls Tryz.prog 12 #[.agg #[.int .i64 ax, .int .i64 ay], .agg #[.int .i64 bx, .int .i64 by'], .agg #[.int .i64 cx, .int .i64 cy], .agg #[.int .i64 dx, .int .i64 dy]] w fun e w' =>
      e = .returned (.int .i64 (sgn (cdet ax ay bx by' cx cy dx dy))) ∧ Hid (New w w') := by
  have HO : Hid (okB [(ax, ay), (bx, by'), (cx, cy), (dx, dy)] = true) := hok
  clear hok
  go_enter Tryz.func12, Tryz.ntmps12
  go_wp2_with fail
  refine (circle_ok ax ay bx by' cx cy dx dy _ HO.out).mono ?_
  rintro e w1 ⟨rfl, H1⟩
  go_wp2_with fail
  go_ret
  exact ⟨rfl, ((((New.alloc _ _).alloc' _).alloc' _).alloc' _).trans' H1.out⟩

end Go.Proofs.YtgeoffpcmkofkaaGreat
