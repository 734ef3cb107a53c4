/- The walk of 'Meet' of package plumb. -/
import Derived.Test.YtgeoffpcmkofkaaYe
import Derived.Test.YtgeoffpcmkofkaaWz
namespace Go.Proofs.Ytgeoffpcmkofkaa
open Go.RowKit Fl
set_option maxRecDepth 100000

set_option maxHeartbeats 1600000 in
theorem meet_ok (ax ay bx by' cx cy dx dy : Int) (w : World) (hok : okB [(ax, ay), (bx, by'), (cx, cy), (dx, dy)] = true) :
    Calls Try.prog 24 #[.agg #[.int .i64 ax, .int .i64 ay], .agg #[.int .i64 bx, .int .i64 by'], .agg #[.int .i64 cx, .int .i64 cy], .agg #[.int .i64 dx, .int .i64 dy]] w fun e w' =>
      e = .returned (.tuple #[.int .i64 (meetN (ax, ay) (bx, by') (cx, cy) (dx, dy)), .int .i64 0]) ∧ Hid (New w w') := by
  have HO : Hid (okE [(ax, ay), (bx, by'), (cx, cy), (dx, dy)] = 0 ∧ CdP (ax, ay) ∧ CdP (bx, by') ∧ CdP (cx, cy) ∧ CdP (dx, dy)) := ⟨by rw [okE, hok]; rfl, okB_cd hok (p := (ax, ay)) (by simp), okB_cd hok (p := (bx, by')) (by simp), okB_cd hok (p := (cx, cy)) (by simp), okB_cd hok (p := (dx, dy)) (by simp)⟩
  clear hok
  go_enter Try.func24, Try.ntmps24
  go_wp2_with fail
  refine (check4 ax ay bx by' cx cy dx dy _ _ (by simp)).mono ?_
  rintro e w1 ⟨rfl, H1⟩
  have r1 := H1.out.rule
  have hE := HO.out.1
  go_wp2_with fail
  refine (segMeet_any ax ay bx by' cx cy dx dy _ HO.out.2.1 HO.out.2.2.1 HO.out.2.2.2.1 HO.out.2.2.2.2).mono ?_
  rintro e w2 ⟨rfl, H2⟩
  clear r1
  go_wp2_with fail
  go_ret2
  exact ⟨rfl, (((((New.alloc _ _).alloc' _).alloc' _).alloc' _).trans' H1.out).trans' H2.out⟩

set_option maxHeartbeats 800000 in
theorem meet_bad (ax ay bx by' cx cy dx dy : Int) (w : World) (hok : okB [(ax, ay), (bx, by'), (cx, cy), (dx, dy)] = false) :
    Calls Try.prog 24 #[.agg #[.int .i64 ax, .int .i64 ay], .agg #[.int .i64 bx, .int .i64 by'], .agg #[.int .i64 cx, .int .i64 cy], .agg #[.int .i64 dx, .int .i64 dy]] w fun e w' =>
      e = .returned (.tuple #[.int .i64 0, .int .i64 1]) ∧ Hid (New w w') := by
  have HO : Hid (okE [(ax, ay), (bx, by'), (cx, cy), (dx, dy)] = 1) := by rw [Hid, okE, hok]; rfl
  clear hok
  go_enter Try.func24, Try.ntmps24
  go_wp2_with fail
  refine (check4 ax ay bx by' cx cy dx dy _ _ (by simp)).mono ?_
  rintro e w1 ⟨rfl, H1⟩
  have hE := HO.out
  go_wp2_with fail
  go_ret2
  exact ⟨rfl, ((((New.alloc _ _).alloc' _).alloc' _).alloc' _).trans' H1.out⟩

end Go.Proofs.Ytgeoffpcmkofkaa
