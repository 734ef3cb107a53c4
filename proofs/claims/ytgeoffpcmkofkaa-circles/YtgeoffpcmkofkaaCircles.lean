/- For every four points the law Circles returns true: plumb.Circle tells the circle side that whole numbers tell, without any rounding, or refuses a coordinate that may not be. No condition. -/
import Derived.Test.YtgeoffpcmkofkaaSides
import Derived.Test.YtgeoffpcmkofkaaXb
namespace Go.Proofs.Ytgeoffpcmkofkaa
open Go.ChangeShapes Go.WideShapes Go.ChangeAt Go.RowKit Go.Joins Fl Dg
set_option maxRecDepth 100000

set_option maxHeartbeats 1600000 in
theorem circles_bad (ax ay bx by' cx cy dx dy : Int) (w : World) (hok : okB [(ax, ay), (bx, by'), (cx, cy), (dx, dy)] = false) :
    Calls Try.prog 4 #[.agg #[.int .i64 ax, .int .i64 ay], .agg #[.int .i64 bx, .int .i64 by'], .agg #[.int .i64 cx, .int .i64 cy], .agg #[.int .i64 dx, .int .i64 dy]] w fun e w' => e = .returned (.bool true) ∧ Hid (New w w') := by
  have HO : Hid (okB [(ax, ay), (bx, by'), (cx, cy), (dx, dy)] = false) := hok
  have HN : Hid ((!okB [(ax, ay), (bx, by'), (cx, cy), (dx, dy)]) = true) := by rw [Hid, hok]; rfl
  clear hok
  go_enter Try.func4, Try.ntmps4
  go_wp2_with fail
  refine (circle_bad ax ay bx by' cx cy dx dy _ HO.out).mono ?_
  rintro e w1 ⟨rfl, H1⟩
  have r1 := H1.out.rule
  go_wp2_with fail
  refine (bad4 ax ay bx by' cx cy dx dy _ _ (by simp)).mono ?_
  rintro e w2 ⟨rfl, H2⟩
  have hN := HN.out
  clear r1
  go_wp2_with fail
  go_ret
  exact ⟨rfl, (((((New.alloc _ _).alloc' _).alloc' _).alloc' _).trans' H1.out).trans' H2.out⟩

set_option maxHeartbeats 1600000 in
theorem circles_ok (ax ay bx by' cx cy dx dy : Int) (w : World) (hok : okB [(ax, ay), (bx, by'), (cx, cy), (dx, dy)] = true) :
    Calls Try.prog 4 #[.agg #[.int .i64 ax, .int .i64 ay], .agg #[.int .i64 bx, .int .i64 by'], .agg #[.int .i64 cx, .int .i64 cy], .agg #[.int .i64 dx, .int .i64 dy]] w fun e w' => e = .returned (.bool true) ∧ Hid (New w w') := by
  have HO : Hid (okB [(ax, ay), (bx, by'), (cx, cy), (dx, dy)] = true) := hok
  have HN : Hid ((!okB [(ax, ay), (bx, by'), (cx, cy), (dx, dy)]) = false) := by rw [Hid, hok]; rfl
  have HC : Hid ((Cd ax ∧ Cd ay) ∧ (Cd bx ∧ Cd by') ∧ (Cd cx ∧ Cd cy) ∧ (Cd dx ∧ Cd dy)) := ⟨okB_cd hok (p := (ax, ay)) (by simp), okB_cd hok (p := (bx, by')) (by simp), okB_cd hok (p := (cx, cy)) (by simp), okB_cd hok (p := (dx, dy)) (by simp)⟩
  clear hok
  go_enter Try.func4, Try.ntmps4
  go_wp2_with fail
  refine (circle_ok ax ay bx by' cx cy dx dy _ HO.out).mono ?_
  rintro e w1 ⟨rfl, H1⟩
  have r1 := H1.out.rule
  go_wp2_with fail
  refine (bad4 ax ay bx by' cx cy dx dy _ _ (by simp)).mono ?_
  rintro e w2 ⟨rfl, H2⟩
  have hN := HN.out
  have r2 := (H1.out.trans' H2.out).rule
  clear r1
  go_wp2_with fail
  refine (refCircle_any ax ay bx by' cx cy dx dy _ HC.out.1.1 HC.out.1.2 HC.out.2.1.1 HC.out.2.1.2 HC.out.2.2.1.1 HC.out.2.2.1.2 HC.out.2.2.2.1 HC.out.2.2.2.2).mono ?_
  rintro e w3 ⟨rfl, H3⟩
  clear r2
  go_wp2_with fail
  go_ret
  exact ⟨rfl, ((((((New.alloc _ _).alloc' _).alloc' _).alloc' _).trans' H1.out).trans' H2.out).trans' H3.out⟩

theorem circles_any (ax ay bx by' cx cy dx dy : Int) (w : World) :
    Calls Try.prog 4 #[.agg #[.int .i64 ax, .int .i64 ay], .agg #[.int .i64 bx, .int .i64 by'], .agg #[.int .i64 cx, .int .i64 cy], .agg #[.int .i64 dx, .int .i64 dy]] w fun e w' => e = .returned (.bool true) ∧ Hid (New w w') := by
  cases hok : okB [(ax, ay), (bx, by'), (cx, cy), (dx, dy)] with
  | true => exact circles_ok ax ay bx by' cx cy dx dy w hok
  | false => exact circles_bad ax ay bx by' cx cy dx dy w hok

set_option maxRecDepth 100000 in
theorem circles_lifted (os : Os) (started : os.Started) (H : Type) (enc : TypeId × Value → H) :
    ReturnsInHanded {} Try.checked os 4 .any (Rows.circlesSpec.pre6 enc Try.prog Try.f4 Rows.circlesRow.domain false) (Rows.circlesSpec.post enc Try.prog Try.f4 false true false false) := by
  refine returnsInHanded_of_change (C := Try.checked) Try.own started (by kernel_rfl) Try.func4
    (ChangeSpec.witness6 (enc := enc) (C := Try.checked) false ⟨#[], #[.agg #[.int .i64 0, .int .i64 0], .agg #[.int .i64 0, .int .i64 0], .agg #[.int .i64 0, .int .i64 0], .agg #[.int .i64 0, .int .i64 0]], []⟩ 8 (by kernel_rfl) (by kernel_rfl) (by kernel_rfl) (by kernel_rfl)) ?_
  intro W base args ds gs before hval0 hW hcnd _
  have hval : ∀ (j : Nat) t v, Try.f4.params[j]? = some t → args[j]? = some v → Value.okWide Try.prog W .any base t v := hval0
  have hW' := hW
  obtain ⟨p, q, hA0, hV, rfl, _, _⟩ := hW
  have hA : DataW.TrodAll enc Try.prog W 0 (fun _ => true) true Try.f4.params.toList args.toList ds p := hA0
  rw [Try.params4] at hA hval
  obtain ⟨v0, v1, v2, v3, d0, d1, d2, d3, p0, p1, p2, p3, rfl, rfl, rfl, h0, h1, h2, h3⟩ := trodAll_four hA
  obtain ⟨rfl, rfl⟩ := trodVars_none hV
  obtain ⟨ax, ay, rfl, rfl, rfl, wax, way⟩ := open_pt (hval 0 23 v0 rfl rfl) h0
  obtain ⟨bx, by', rfl, rfl, rfl, wbx, wby⟩ := open_pt (hval 1 23 v1 rfl rfl) h1
  obtain ⟨cx, cy, rfl, rfl, rfl, wcx, wcy⟩ := open_pt (hval 2 23 v2 rfl rfl) h2
  obtain ⟨dx, dy, rfl, rfl, rfl, wdx, wdy⟩ := open_pt (hval 3 23 v3 rfl rfl) h3
  clear hA0 hval0
  refine (circles_any ax ay bx by' cx cy dx dy W).mono fun e W' ⟨he, hn⟩ => ?_
  subst he
  exact ⟨_, rfl, _, _, _, [], _, [], hW', trodAll_mk1 (shut_bool Try.underlying4 _), trodAll_mk4 (shut_pt wax way) (shut_pt wbx wby) (shut_pt wcx wcy) (shut_pt wdx wdy), rfl, (New.below hn.out).frame _, fun h => by cases h⟩

theorem circles_holds : Rows.CirclesSaid :=
  OpenClaim.holds_of_wide 4 Try.f4 rfl rfl rfl rfl rfl rfl rfl ⟨rfl, rfl, rfl, rfl, rfl⟩ rfl rfl rfl rfl rfl (by kernel_rfl) Try.func4 (by kernel_rfl)
    (of_decide_eq_true (by kernel_rfl)) (by unfold Func.isWrapper; rw [if_neg (of_decide_eq_false (by kernel_rfl))]; exact ⟨rfl, rfl⟩)
    (fun os started H enc _ => circles_lifted os started H enc)

#print axioms circles_holds
end Go.Proofs.Ytgeoffpcmkofkaa
