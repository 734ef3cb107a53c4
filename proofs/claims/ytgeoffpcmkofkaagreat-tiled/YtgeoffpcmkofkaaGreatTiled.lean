/- For every list of points, nil too, the law Tiled returns true: the triangles that Triangulate answers go round to the left, in their order; together they fill the hull without overlapping; each point is a corner; and no point lies within any of their circles. No condition. -/
import Derived.Test.YtgeoffpcmkofkaaGreatRows
import Derived.Test.YtgeoffpcmkofkaaGreatQaf
import Derived.Test.YtgeoffpcmkofkaaGreatQao
namespace Go.Proofs.YtgeoffpcmkofkaaGreat
open Go.ChangeShapes Go.WideShapes Go.ChangeAt Go.RowKit Go.Joins Go.Deep Fl
set_option maxRecDepth 100000

theorem tiled_lifted (os : Os) (started : os.Started) (H : Type) (enc : TypeId × Value → H) :
    ReturnsInHanded {} Tryz.checked os 3 .any (Rows.tiledSpec.pre6 enc Tryz.prog Tryz.f3 Rows.tiledRow.domain false) (Rows.tiledSpec.post enc Tryz.prog Tryz.f3 false true false false) := by
  refine returnsInHanded_of_change_sized (C := Tryz.checked) Tryz.own started (by kernel_rfl) Tryz.func3
    (ChangeSpec.witness6 (enc := enc) (C := Tryz.checked) false ⟨#[], #[.slice none 0 0], []⟩ 8 (by kernel_rfl) (by kernel_rfl) (by kernel_rfl) (by kernel_rfl)) ?_
  intro W base args ds gs before hval0 hW hcnd hwt _
  have hval : ∀ (j : Nat) t v, Tryz.f3.params[j]? = some t → args[j]? = some v → Value.okWide Tryz.prog W .any base t v := hval0
  have hwt' : (DataW.weightsEach Tryz.prog (Tryz.f3.params.toList ++ Rows.tiledSpec.plain.varTypes Tryz.prog) (ds ++ gs)).all (· ≤ reachBytes) = true := hwt
  have hW' := hW
  obtain ⟨p, q, hA0, hV, rfl, _, _⟩ := hW
  have hA : DataW.TrodAll enc Tryz.prog W 0 (fun _ => true) true Tryz.f3.params.toList args.toList ds p := hA0
  rw [Tryz.params3] at hA hval hwt'
  obtain ⟨v0, d0, rfl, rfl, h0⟩ := trodAll_one hA
  obtain ⟨rfl, rfl⟩ := trodVars_none hV
  clear hA0 hval0 hwt
  have hlt : ∀ x ∈ p, x.block < W.heap.size := fun x hx => by
    have := hW'.lt x (by simp [hx])
    simpa using this
  have hargs : ∀ (W' : World), Below W.heap.size W W' → DataW.Trod enc Tryz.prog W' 0 (fun b => decide (b < W.heap.size)) true 22 v0 d0 p :=
    fun W' hn => Below.trod sameLaid (by kernel_rfl) (of_decide_eq_true (by kernel_rfl)) h0 hn hlt
  have fin : Calls Tryz.prog 3 #[v0] W fun e w' => e = .returned (.bool true) ∧ Hid (New W w') := by
    rcases open_list (hval 0 22 v0 rfl rfl) h0 with ⟨rfl, _⟩ | ⟨a, cap, l, elems, spare, rfl, hl, hp, hin, rfl, hcap⟩
    · exact tiled_law none 0 [] W (fun h => by simp at h) (fun p h => by simp at h) (by omega) (by simp)
    · have hsz := sized_slice hwt' (j := 0) (t := 22) (e := 36) rfl rfl Tryz.underlying22
      rw [hcap, sameBytes, show reachBytes = 140737488351232 from rfl] at hsz
      exact tiled_law (some a) cap l W hp hin (by omega) hl
  refine fin.mono fun e W' ⟨he, hn⟩ => ?_
  subst he
  exact ⟨_, rfl, _, _, _, [], _, [], hW', trodAll_mk1 (shut_bool Tryz.underlying4 _), trodAll_mk1 (hargs W' (New.below hn.out)), rfl, (New.below hn.out).frame _, fun h => by cases h⟩

theorem tiled_holds : Rows.TiledSaid :=
  OpenClaim.holds_of_wide 3 Tryz.f3 rfl rfl rfl rfl rfl rfl rfl ⟨rfl, rfl, rfl, rfl, rfl⟩ rfl rfl rfl rfl rfl (by kernel_rfl) Tryz.func3 (by kernel_rfl)
    (of_decide_eq_true (by kernel_rfl)) (by unfold Func.isWrapper; rw [if_neg (of_decide_eq_false (by kernel_rfl))]; exact ⟨rfl, rfl⟩)
    (fun os started H enc _ => tiled_lifted os started H enc)

#print axioms tiled_holds
end Go.Proofs.YtgeoffpcmkofkaaGreat
