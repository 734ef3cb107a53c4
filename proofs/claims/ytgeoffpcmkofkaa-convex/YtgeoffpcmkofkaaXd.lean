/- The walk of plumbkeep's 'sure'. -/
import Derived.Test.YtgeoffpcmkofkaaXc
namespace Go.Proofs.Ytgeoffpcmkofkaa
open Go.RowKit Fl
set_option maxRecDepth 100000

theorem sure_1 (w : World) : Calls Try.prog 11 #[.agg #[.int .i64 0, .int .i64 0], .agg #[.int .i64 9007199254740992, .int .i64 9007199254740991], .agg #[.int .i64 9007199254740991, .int .i64 9007199254740990]] w fun e w' => e = .returned (.tuple #[.int .i64 (-1), .int .i64 0]) ∧ Hid (New w w') :=
  side_ok 0 0 9007199254740992 9007199254740991 9007199254740991 9007199254740990 w (by decide)
theorem sure_2 (w : World) : Calls Try.prog 11 #[.agg #[.int .i64 0, .int .i64 0], .agg #[.int .i64 4, .int .i64 0], .agg #[.int .i64 2, .int .i64 3]] w fun e w' => e = .returned (.tuple #[.int .i64 1, .int .i64 0]) ∧ Hid (New w w') :=
  side_ok 0 0 4 0 2 3 w (by decide)
theorem sure_3 (w : World) : Calls Try.prog 14 #[.agg #[.int .i64 (-9007199254740992), .int .i64 0], .agg #[.int .i64 9007199254740992, .int .i64 0], .agg #[.int .i64 0, .int .i64 9007199254740992], .agg #[.int .i64 1, .int .i64 (-9007199254740992)]] w fun e w' => e = .returned (.tuple #[.int .i64 (-1), .int .i64 0]) ∧ Hid (New w w') :=
  circle_ok (-9007199254740992) 0 9007199254740992 0 0 9007199254740992 1 (-9007199254740992) w (by decide)
theorem sure_4 (w : World) : Calls Try.prog 14 #[.agg #[.int .i64 0, .int .i64 0], .agg #[.int .i64 4, .int .i64 0], .agg #[.int .i64 0, .int .i64 4], .agg #[.int .i64 1, .int .i64 1]] w fun e w' => e = .returned (.tuple #[.int .i64 1, .int .i64 0]) ∧ Hid (New w w') :=
  circle_ok 0 0 4 0 0 4 1 1 w (by decide)
theorem sure_5 (w : World) : Calls Try.prog 14 #[.agg #[.int .i64 (-9007199254740992), .int .i64 0], .agg #[.int .i64 9007199254740992, .int .i64 0], .agg #[.int .i64 0, .int .i64 9007199254740992], .agg #[.int .i64 0, .int .i64 (-9007199254740992)]] w fun e w' => e = .returned (.tuple #[.int .i64 0, .int .i64 0]) ∧ Hid (New w w') :=
  circle_ok (-9007199254740992) 0 9007199254740992 0 0 9007199254740992 0 (-9007199254740992) w (by decide)

set_option maxHeartbeats 1600000 in
theorem sure_any (w : World) : Calls Try.prog 16 #[] w fun e w' => e = .returned (.bool true) ∧ Hid (New w w') := by
  have HN : Hid (New w w) := New.refl w
  go_enter Try.func16, Try.ntmps16
  go_wp2_with fail
  refine (at_any 0 0 _).mono ?_
  rintro e w1 ⟨rfl, H1⟩
  replace HN : Hid (New w w1) := HN.out.trans' H1.out
  clear H1
  go_wp2_with fail
  refine (at_any 9007199254740992 9007199254740991 _).mono ?_
  rintro e w1 ⟨rfl, H1⟩
  replace HN : Hid (New w w1) := HN.out.trans' H1.out
  clear H1
  go_wp2_with fail
  refine (at_any 9007199254740991 9007199254740990 _).mono ?_
  rintro e w1 ⟨rfl, H1⟩
  replace HN : Hid (New w w1) := HN.out.trans' H1.out
  clear H1
  go_wp2_with fail
  refine (sure_1 _).mono ?_
  rintro e w1 ⟨rfl, H1⟩
  replace HN : Hid (New w w1) := HN.out.trans' H1.out
  clear H1
  go_wp2_with fail
  refine (at_any 0 0 _).mono ?_
  rintro e w1 ⟨rfl, H1⟩
  replace HN : Hid (New w w1) := HN.out.trans' H1.out
  clear H1
  go_wp2_with fail
  refine (at_any 4 0 _).mono ?_
  rintro e w1 ⟨rfl, H1⟩
  replace HN : Hid (New w w1) := HN.out.trans' H1.out
  clear H1
  go_wp2_with fail
  refine (at_any 2 3 _).mono ?_
  rintro e w1 ⟨rfl, H1⟩
  replace HN : Hid (New w w1) := HN.out.trans' H1.out
  clear H1
  go_wp2_with fail
  refine (sure_2 _).mono ?_
  rintro e w1 ⟨rfl, H1⟩
  replace HN : Hid (New w w1) := HN.out.trans' H1.out
  clear H1
  go_wp2_with fail
  refine (at_any (-9007199254740992) 0 _).mono ?_
  rintro e w1 ⟨rfl, H1⟩
  replace HN : Hid (New w w1) := HN.out.trans' H1.out
  clear H1
  go_wp2_with fail
  refine (at_any 9007199254740992 0 _).mono ?_
  rintro e w1 ⟨rfl, H1⟩
  replace HN : Hid (New w w1) := HN.out.trans' H1.out
  clear H1
  go_wp2_with fail
  refine (at_any 0 9007199254740992 _).mono ?_
  rintro e w1 ⟨rfl, H1⟩
  replace HN : Hid (New w w1) := HN.out.trans' H1.out
  clear H1
  go_wp2_with fail
  refine (at_any 1 (-9007199254740992) _).mono ?_
  rintro e w1 ⟨rfl, H1⟩
  replace HN : Hid (New w w1) := HN.out.trans' H1.out
  clear H1
  go_wp2_with fail
  refine (sure_3 _).mono ?_
  rintro e w1 ⟨rfl, H1⟩
  replace HN : Hid (New w w1) := HN.out.trans' H1.out
  clear H1
  go_wp2_with fail
  refine (at_any 0 0 _).mono ?_
  rintro e w1 ⟨rfl, H1⟩
  replace HN : Hid (New w w1) := HN.out.trans' H1.out
  clear H1
  go_wp2_with fail
  refine (at_any 4 0 _).mono ?_
  rintro e w1 ⟨rfl, H1⟩
  replace HN : Hid (New w w1) := HN.out.trans' H1.out
  clear H1
  go_wp2_with fail
  refine (at_any 0 4 _).mono ?_
  rintro e w1 ⟨rfl, H1⟩
  replace HN : Hid (New w w1) := HN.out.trans' H1.out
  clear H1
  go_wp2_with fail
  refine (at_any 1 1 _).mono ?_
  rintro e w1 ⟨rfl, H1⟩
  replace HN : Hid (New w w1) := HN.out.trans' H1.out
  clear H1
  go_wp2_with fail
  refine (sure_4 _).mono ?_
  rintro e w1 ⟨rfl, H1⟩
  replace HN : Hid (New w w1) := HN.out.trans' H1.out
  clear H1
  go_wp2_with fail
  refine (at_any (-9007199254740992) 0 _).mono ?_
  rintro e w1 ⟨rfl, H1⟩
  replace HN : Hid (New w w1) := HN.out.trans' H1.out
  clear H1
  go_wp2_with fail
  refine (at_any 9007199254740992 0 _).mono ?_
  rintro e w1 ⟨rfl, H1⟩
  replace HN : Hid (New w w1) := HN.out.trans' H1.out
  clear H1
  go_wp2_with fail
  refine (at_any 0 9007199254740992 _).mono ?_
  rintro e w1 ⟨rfl, H1⟩
  replace HN : Hid (New w w1) := HN.out.trans' H1.out
  clear H1
  go_wp2_with fail
  refine (at_any 0 (-9007199254740992) _).mono ?_
  rintro e w1 ⟨rfl, H1⟩
  replace HN : Hid (New w w1) := HN.out.trans' H1.out
  clear H1
  go_wp2_with fail
  refine (sure_5 _).mono ?_
  rintro e w1 ⟨rfl, H1⟩
  replace HN : Hid (New w w1) := HN.out.trans' H1.out
  clear H1
  go_wp2_with fail
  refine (near_yes (-1) _).mono ?_
  rintro e w1 ⟨rfl, rfl⟩
  go_wp2_with fail
  refine (near_yes 1 _).mono ?_
  rintro e w1 ⟨rfl, rfl⟩
  go_wp2_with fail
  refine (near_yes (-1) _).mono ?_
  rintro e w1 ⟨rfl, rfl⟩
  go_wp2_with fail
  refine (near_yes 1 _).mono ?_
  rintro e w1 ⟨rfl, rfl⟩
  go_wp2_with fail
  refine (near_yes 0 _).mono ?_
  rintro e w1 ⟨rfl, rfl⟩
  go_wp2_with fail
  go_ret
  exact ⟨rfl, HN.out⟩

end Go.Proofs.Ytgeoffpcmkofkaa
