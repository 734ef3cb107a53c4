/- For every list of points, nil too, the law Hulls returns true: plumb.Hull tells the corners that the document tells, refuses what it refuses, hands out a row of its own each time, and writes into nothing that is not its own; it starts goroutines, whatever the order in which they run, and they have all left or only leave when it is done. No condition. -/
import Derived.Test.YtgeoffpcmkofkaaQbh
import Derived.Test.YtgeoffpcmkofkaaQbk
namespace Go.Proofs.Ytgeoffpcmkofkaa
open Go.ChangeShapes Go.WideShapes Go.ChangeAt Go.RowKit Go.Joins Go.Deep Go.Conc
set_option maxRecDepth 100000

theorem hulls_lifted (os : Os) (started : os.Started) (H : Type) (enc : TypeId × Value → H) :
    ReturnsInLeavingWide {} Try.checked os 9 .any (Rows.hullsSpec.pre6 enc Try.prog Try.f9 Rows.hullsRow.domain false) (Rows.hullsSpec.post enc Try.prog Try.f9 false true false false) := by
  refine leaves Try.own started Try.func9
    (ChangeSpec.witness6 (enc := enc) (C := Try.checked) false ⟨#[], #[.slice none 0 0], []⟩ 8 (by kernel_rfl) (by kernel_rfl) (by kernel_rfl) (by kernel_rfl)) ?_
  intro W base args ds gs before hG hval0 hW hwt
  have hval : ∀ (j : Nat) t v, Try.f9.params[j]? = some t → args[j]? = some v → Value.okWide Try.prog W .any base t v := hval0
  have hwt' : (DataW.weightsEach Try.prog (Try.f9.params.toList ++ Rows.hullsSpec.plain.varTypes Try.prog) (ds ++ gs)).all (· ≤ reachBytes) = true := hwt
  have hW' := hW
  obtain ⟨p, q, hA0, hV, rfl, _, _⟩ := hW
  have hA : DataW.TrodAll enc Try.prog W 0 (fun _ => true) true Try.f9.params.toList args.toList ds p := hA0
  rw [Try.params9] at hA hval hwt'
  obtain ⟨v0, d0, rfl, rfl, h0⟩ := trodAll_one hA
  obtain ⟨rfl, rfl⟩ := trodVars_none hV
  clear hA0 hval0 hwt
  have hlt : ∀ x ∈ p, x.block < W.heap.size := fun x hx => by
    have := hW'.lt x (by simp [hx])
    simpa using this
  have close : ∀ w', Kept W w' → Rows.hullsSpec.post enc Try.prog Try.f9 false true false false W #[v0] (.bool true) w' := fun w' hk =>
    ⟨_, _, _, [], _, [], hW', trodAll_mk1 (shut_bool Try.underlying4 _), trodAll_mk1 (hk.trod h0 hlt), rfl, hk.frame _, fun h => by cases h⟩
  show A Try.prog (fun v W' => Rows.hullsSpec.post enc Try.prog Try.f9 false true false false W #[v0] v W') (Frame.enter Try.prog 9 #[v0] .normal) [] W
  rcases open_list (hval 0 28 v0 rfl rfl) h0 with ⟨rfl, _⟩ | ⟨a, cap, l, elems, spare, rfl, hl, hp, _, rfl, hcap⟩
  · exact A.hulls (ao := none) (cap := 0) (l := []) (fun h => by simp at h) (Nat.le_refl _) (by omega) (fun _ => rfl) hG close
  · have hsz := sized_slice hwt' (j := 0) (t := 28) (e := 23) rfl rfl Try.underlying28
    rw [hcap, listBytes, show reachBytes = 140737488351232 from rfl] at hsz
    exact A.hulls hp hl (by omega) (fun h => by cases h) hG close

theorem hulls_holds : Rows.HullsSaid :=
  OpenClaim.holds_of_wide_leaving 9 Try.f9 rfl rfl rfl rfl rfl rfl rfl ⟨rfl, rfl, rfl, rfl, rfl⟩ rfl rfl rfl rfl rfl (by kernel_rfl) Try.func9 (by kernel_rfl)
    (of_decide_eq_true (by kernel_rfl)) (by unfold Func.isWrapper; rw [if_neg (of_decide_eq_false (by kernel_rfl))]; exact ⟨rfl, rfl⟩)
    (fun os started H enc _ => hulls_lifted os started H enc)

#print axioms hulls_holds
end Go.Proofs.Ytgeoffpcmkofkaa
