/- For every list of points, nil too, the law Same returns true: Triangulate again answers the same, in new memory; what is handed in stays as it is; too many points, or one that may not be, are refused. No condition. -/
import Derived.Test.YtgeoffpcmkofkaaGreatRows
import Derived.Test.YtgeoffpcmkofkaaGreatQaf
import Derived.Test.YtgeoffpcmkofkaaGreatQan
namespace Go.Proofs.YtgeoffpcmkofkaaGreat
open Go.ChangeShapes Go.WideShapes Go.ChangeAt Go.RowKit Go.Joins Go.Deep Fl
set_option maxRecDepth 100000

theorem same_lifted (os : Os) (started : os.Started) (H : Type) (enc : TypeId × Value → H) :
    ReturnsInHanded {} Tryz.checked os 4 .any (Rows.sameSpec.pre6 enc Tryz.prog Tryz.f4 Rows.sameRow.domain false) (Rows.sameSpec.post enc Tryz.prog Tryz.f4 false true false false) := by
  refine returnsInHanded_of_change_sized (C := Tryz.checked) Tryz.own started (by kernel_rfl) Tryz.func4
    (ChangeSpec.witness6 (enc := enc) (C := Tryz.checked) false ⟨#[], #[.slice none 0 0], []⟩ 8 (by kernel_rfl) (by kernel_rfl) (by kernel_rfl) (by kernel_rfl)) ?_
  intro W base args ds gs before hval0 hW hcnd hwt _
  have hval : ∀ (j : Nat) t v, Tryz.f4.params[j]? = some t → args[j]? = some v → Value.okWide Tryz.prog W .any base t v := hval0
  have hwt' : (DataW.weightsEach Tryz.prog (Tryz.f4.params.toList ++ Rows.sameSpec.plain.varTypes Tryz.prog) (ds ++ gs)).all (· ≤ reachBytes) = true := hwt
  have hW' := hW
  obtain ⟨p, q, hA0, hV, rfl, _, _⟩ := hW
  have hA : DataW.TrodAll enc Tryz.prog W 0 (fun _ => true) true Tryz.f4.params.toList args.toList ds p := hA0
  rw [Tryz.params4] at hA hval hwt'
  obtain ⟨v0, d0, rfl, rfl, h0⟩ := trodAll_one hA
  obtain ⟨rfl, rfl⟩ := trodVars_none hV
  clear hA0 hval0 hwt
  have hlt : ∀ x ∈ p, x.block < W.heap.size := fun x hx => by
    have := hW'.lt x (by simp [hx])
    simpa using this
  have hargs : ∀ (W' : World), Below W.heap.size W W' → DataW.Trod enc Tryz.prog W' 0 (fun b => decide (b < W.heap.size)) true 22 v0 d0 p :=
    fun W' hn => Below.trod sameLaid (by kernel_rfl) (of_decide_eq_true (by kernel_rfl)) h0 hn hlt
  have fin : Calls Tryz.prog 4 #[v0] W fun e w' => e = .returned (.bool true) ∧ Hid (New W w') := by
    rcases open_list (hval 0 22 v0 rfl rfl) h0 with ⟨rfl, _⟩ | ⟨a, cap, l, elems, spare, rfl, hl, hp, hin, rfl, hcap⟩
    · exact same_law _ tri_now none 0 [] W (fun h => by simp at h) (fun p h => by simp at h) (by omega) (by simp)
    · have hsz := sized_slice hwt' (j := 0) (t := 22) (e := 36) rfl rfl Tryz.underlying22
      rw [hcap, sameBytes, show reachBytes = 140737488351232 from rfl] at hsz
      exact same_law _ tri_now (some a) cap l W hp hin (by omega) hl
  refine fin.mono fun e W' ⟨he, hn⟩ => ?_
  subst he
  exact ⟨_, rfl, _, _, _, [], _, [], hW', trodAll_mk1 (shut_bool Tryz.underlying4 _), trodAll_mk1 (hargs W' (New.below hn.out)), rfl, (New.below hn.out).frame _, fun h => by cases h⟩

theorem same_holds : Rows.SameSaid :=
  OpenClaim.holds_of_wide 4 Tryz.f4 rfl rfl rfl rfl rfl rfl rfl ⟨rfl, rfl, rfl, rfl, rfl⟩ rfl rfl rfl rfl rfl (by kernel_rfl) Tryz.func4 (by kernel_rfl)
    (of_decide_eq_true (by kernel_rfl)) (by unfold Func.isWrapper; rw [if_neg (of_decide_eq_false (by kernel_rfl))]; exact ⟨rfl, rfl⟩)
    (fun os started H enc _ => same_lifted os started H enc)

#print axioms same_holds
end Go.Proofs.YtgeoffpcmkofkaaGreat
