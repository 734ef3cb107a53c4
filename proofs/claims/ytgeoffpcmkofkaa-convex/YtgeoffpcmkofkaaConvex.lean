/- For every list of points, nil too, and every point the law Convex returns true: the corners that plumb.Hull tells of points that may be turn left one behind the other, no point lies to the right of a side, all points lie within the corners as a polygon or on it, and any point does just if it lies on the left, or on the line, of each side (where there are three corners or more); it starts goroutines, whatever the order in which they run, and they have all left or only leave when it is done. No condition. -/
import Derived.Test.YtgeoffpcmkofkaaRbj
import Derived.Test.YtgeoffpcmkofkaaRbm
namespace Go.Proofs.Ytgeoffpcmkofkaa
open Go.ChangeShapes Go.WideShapes Go.ChangeAt Go.RowKit Go.Joins Go.Deep Go.Conc
set_option maxRecDepth 100000

theorem convex_lifted (os : Os) (started : os.Started) (H : Type) (enc : TypeId × Value → H) :
    ReturnsInLeavingWide {} Try.checked os 10 .any (Rows.convexSpec.pre6 enc Try.prog Try.f10 Rows.convexRow.domain false) (Rows.convexSpec.post enc Try.prog Try.f10 false true false false) := by
  refine leaves Try.own started Try.func10
    (ChangeSpec.witness6 (enc := enc) (C := Try.checked) false ⟨#[], #[.slice none 0 0, .agg #[.int .i64 0, .int .i64 0]], []⟩ 8 (by kernel_rfl) (by kernel_rfl) (by kernel_rfl) (by kernel_rfl)) ?_
  intro W base args ds gs before hG hval0 hW _
  have hval : ∀ (j : Nat) t v, Try.f10.params[j]? = some t → args[j]? = some v → Value.okWide Try.prog W .any base t v := hval0
  have hW' := hW
  obtain ⟨p, q, hA0, hV, rfl, _, _⟩ := hW
  have hA : DataW.TrodAll enc Try.prog W 0 (fun _ => true) true Try.f10.params.toList args.toList ds p := hA0
  rw [Try.params10] at hA hval
  obtain ⟨v0, v1, d0, d1, p0, p1, rfl, rfl, rfl, h0, h1⟩ := trodAll_two hA
  obtain ⟨rfl, rfl⟩ := trodVars_none hV
  obtain ⟨px, py, rfl, rfl, rfl, wpx, wpy⟩ := open_pt (hval 1 23 v1 rfl rfl) h1
  clear hA0 hval0
  have hlt : ∀ x ∈ p0, x.block < W.heap.size := fun x hx => by
    have := hW'.lt x (by simp [hx])
    simpa using this
  have bx := bounds_i64 wpx
  have by' := bounds_i64 wpy
  have close : ∀ w', Kept W w' → Rows.convexSpec.post enc Try.prog Try.f10 false true false false W #[v0, .agg #[.int .i64 px, .int .i64 py]] (.bool true) w' := fun w' hk =>
    ⟨_, _, _, [], _, [], hW', trodAll_mk1 (shut_bool Try.underlying4 _), trodAll_mk2 (hk.trod h0 hlt) (shut_pt wpx wpy), rfl, hk.frame _, fun h => by cases h⟩
  show A Try.prog (fun v W' => Rows.convexSpec.post enc Try.prog Try.f10 false true false false W #[v0, .agg #[.int .i64 px, .int .i64 py]] v W') (Frame.enter Try.prog 10 #[v0, .agg #[.int .i64 px, .int .i64 py]] .normal) [] W
  rcases open_list (hval 0 28 v0 rfl rfl) h0 with ⟨rfl, _⟩ | ⟨a, cap, l, elems, spare, rfl, _, hp, hin, _, _⟩
  · exact A.convex (ro := none) (rcap := 0) (rl := []) (fun h => by simp at h) (fun x hx => by simp at hx) (by omega) (by omega) (by omega) (by omega) hG close
  · exact A.convex hp hin (by omega) (by omega) (by omega) (by omega) hG close

theorem convex_holds : Rows.ConvexSaid :=
  OpenClaim.holds_of_wide_leaving 10 Try.f10 rfl rfl rfl rfl rfl rfl rfl ⟨rfl, rfl, rfl, rfl, rfl⟩ rfl rfl rfl rfl rfl (by kernel_rfl) Try.func10 (by kernel_rfl)
    (of_decide_eq_true (by kernel_rfl)) (by unfold Func.isWrapper; rw [if_neg (of_decide_eq_false (by kernel_rfl))]; exact ⟨rfl, rfl⟩)
    (fun os started H enc _ => convex_lifted os started H enc)

#print axioms convex_holds
end Go.Proofs.Ytgeoffpcmkofkaa
