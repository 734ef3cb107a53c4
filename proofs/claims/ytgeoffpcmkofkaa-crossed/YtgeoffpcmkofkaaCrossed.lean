/- For every four points the law Crossed returns true: what plumb.Meet answers keeps to P5 as the sides tell it, whichever way round, and the document's first examples come out. No condition. -/
import Derived.Test.YtgeoffpcmkofkaaRows
import Derived.Test.YtgeoffpcmkofkaaYj
import Derived.ProofKit
import Derived.OpenShut
import Derived.Lib.SmallJoins
namespace Go.Proofs.Ytgeoffpcmkofkaa
open Go.ChangeShapes Go.WideShapes Go.ChangeAt Go.RowKit Go.Joins Fl
set_option maxRecDepth 100000

theorem crossedOwn : ownKnob Try.prog.godebug = none := by kernel_rfl
theorem crossedCells : Try.prog.cellsOf 23 = 2 := by kernel_rfl

/-- A point, opened. -/
theorem open_point {H : Type} {enc : TypeId × Value → H} {W : World} {base b0 : Nat} {r : Reach} {sp : Nat → Bool} {v : Value} {d : DataW H} {p : List MemPlace} (hv : Value.okWide Try.prog W r b0 23 v) (h : DataW.Trod enc Try.prog W base sp true 23 v d p) :
    ∃ x y : Int, v = .agg #[.int .i64 x, .int .i64 y] ∧ d = .agg [.lit (.int .i64 x), .lit (.int .i64 y)] ∧ p = [] ∧ (Lit.int .i64 x).wf = true ∧ (Lit.int .i64 y).wf = true := by
  obtain ⟨c0, c1, y0, y1, m, rfl, rfl, rfl, hy0, hy1⟩ := open_agg2 Try.underlying23 (by kernel_rfl) crossedCells hv h
  obtain ⟨x, e0, rfl, wx⟩ := DataW.trod_int Try.underlying3 hy0
  obtain ⟨y, e1, rfl, wy⟩ := DataW.trod_int Try.underlying3 hy1
  simp at e0 e1
  subst e0 e1
  exact ⟨x, y, rfl, rfl, rfl, wx, wy⟩

/-- A point, shut. -/
theorem shut_point {H : Type} {enc : TypeId × Value → H} {W : World} {base : Nat} {sp : Nat → Bool} {x y : Int} (wx : (Lit.int .i64 x).wf = true) (wy : (Lit.int .i64 y).wf = true) :
    DataW.Trod enc Try.prog W base sp true 23 (.agg #[.int .i64 x, .int .i64 y]) (.agg [.lit (.int .i64 x), .lit (.int .i64 y)]) [] :=
  shut_agg2 (y0 := (.lit (.int .i64 x), [])) (y1 := (.lit (.int .i64 y), [])) Try.underlying23 (by kernel_rfl) crossedCells ⟨1, by simp [DataW.trod, Try.underlying3, wx]⟩ ⟨1, by simp [DataW.trod, Try.underlying3, wy]⟩

theorem in64 {x y : Int} (wx : (Lit.int .i64 x).wf = true) (wy : (Lit.int .i64 y).wf = true) : (-9223372036854775808 ≤ x ∧ x < 9223372036854775808) ∧ (-9223372036854775808 ≤ y ∧ y < 9223372036854775808) := by
  have h1 := bounds_i64 wx
  have h2 := bounds_i64 wy
  omega

set_option maxRecDepth 100000 in
theorem crossed_lifted (os : Os) (started : os.Started) (H : Type) (enc : TypeId × Value → H) :
    ReturnsInHanded {} Try.checked os 8 .any (Rows.crossedSpec.pre6 enc Try.prog Try.f8 Rows.crossedRow.domain false) (Rows.crossedSpec.post enc Try.prog Try.f8 false true false false) := by
  refine returnsInHanded_of_change (C := Try.checked) crossedOwn started (by kernel_rfl) Try.func8
    (ChangeSpec.witness6 (enc := enc) (C := Try.checked) false ⟨#[], #[.agg #[.int .i64 0, .int .i64 0], .agg #[.int .i64 0, .int .i64 0], .agg #[.int .i64 0, .int .i64 0], .agg #[.int .i64 0, .int .i64 0]], []⟩ 8 (by kernel_rfl) (by kernel_rfl) (by kernel_rfl) (by kernel_rfl)) ?_
  intro W base args ds gs before hval0 hW hcnd _
  have hval : ∀ (j : Nat) t v, Try.f8.params[j]? = some t → args[j]? = some v → Value.okWide Try.prog W .any base t v := hval0
  have hW' := hW
  obtain ⟨p, q, hA0, hV, rfl, _, _⟩ := hW
  have hA : DataW.TrodAll enc Try.prog W 0 (fun _ => true) true Try.f8.params.toList args.toList ds p := hA0
  rw [Try.params8] at hA hval
  obtain ⟨v0, v1, v2, v3, d0, d1, d2, d3, p0, p1, p2, p3, rfl, rfl, rfl, h0, h1, h2, h3⟩ := trodAll_four hA
  obtain ⟨rfl, rfl⟩ := trodVars_none hV
  obtain ⟨ax, ay, rfl, rfl, rfl, wax, way⟩ := open_point (hval 0 23 v0 rfl rfl) h0
  obtain ⟨bx, by', rfl, rfl, rfl, wbx, wby⟩ := open_point (hval 1 23 v1 rfl rfl) h1
  obtain ⟨cx, cy, rfl, rfl, rfl, wcx, wcy⟩ := open_point (hval 2 23 v2 rfl rfl) h2
  obtain ⟨dx, dy, rfl, rfl, rfl, wdx, wdy⟩ := open_point (hval 3 23 v3 rfl rfl) h3
  clear hA0 hval0
  have hin : In64 [(ax, ay), (bx, by'), (cx, cy), (dx, dy)] := by
    intro p hp
    simp only [List.mem_cons, List.not_mem_nil, or_false] at hp
    rcases hp with rfl | rfl | rfl | rfl
    · exact in64 wax way
    · exact in64 wbx wby
    · exact in64 wcx wcy
    · exact in64 wdx wdy
  refine (crossed_law ax ay bx by' cx cy dx dy W hin).mono fun e W' ⟨he, hn⟩ => ?_
  subst he
  exact ⟨_, rfl, _, _, _, [], _, [], hW', trodAll_mk1 (shut_bool Try.underlying4 _), trodAll_mk4 (shut_point wax way) (shut_point wbx wby) (shut_point wcx wcy) (shut_point wdx wdy), rfl, (New.below' hn.out).frame _, fun h => by cases h⟩

theorem crossed_holds : Rows.CrossedSaid :=
  OpenClaim.holds_of_wide 8 Try.f8 rfl rfl rfl rfl rfl rfl rfl ⟨rfl, rfl, rfl, rfl, rfl⟩ rfl rfl rfl rfl rfl (by kernel_rfl) Try.func8 (by kernel_rfl)
    (of_decide_eq_true (by kernel_rfl)) (by unfold Func.isWrapper; rw [if_neg (of_decide_eq_false (by kernel_rfl))]; exact ⟨rfl, rfl⟩)
    (fun os started H enc _ => crossed_lifted os started H enc)

#print axioms crossed_holds
end Go.Proofs.Ytgeoffpcmkofkaa
