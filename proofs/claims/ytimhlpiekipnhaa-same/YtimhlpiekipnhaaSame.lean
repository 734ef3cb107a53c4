/- For every list of points, nil too, the law Same returns true: Triangulate again answers the same, in new memory; what is handed in stays as it is; too many points, or one that may not be, are refused. No condition. (At this commit Triangulate answers no triangle yet.) -/
import Derived.Test.YtimhlpiekipnhaaSides
import Derived.Test.YtimhlpiekipnhaaZb
import Derived.Deep.SlicePairs
import Derived.SizedLaws
import Derived.Carry
namespace Go.Proofs.Ytimhlpiekipnhaa
open Go.ChangeShapes Go.WideShapes Go.ChangeAt Go.RowKit Go.Joins Go.Deep Fl
set_option maxRecDepth 100000

theorem sameLaid : laidOutB Try.prog = true := by kernel_rfl
theorem sameBytes : Try.prog.bytesOf 23 = 16 := by kernel_rfl

/-- A list of points, opened. -/
theorem open_list {H : Type} {enc : TypeId × Value → H} {W : World} {b0 : Nat} {r : Reach} {v : Value} {d : DataW H} {p : List MemPlace} (hv : Value.okWide Try.prog W r b0 28 v) (h : DataW.Trod enc Try.prog W 0 (fun _ => true) true 28 v d p) :
    (v = .slice none 0 0 ∧ d = .nil) ∨ ∃ (a : Addr) (cap : Nat) (l : Pts) (elems spare : List (DataW H)), v = .slice (some a) l.length cap ∧ l.length ≤ cap ∧ PolyAt W (some a) l ∧ In64 l ∧ d = .slice elems spare ∧ elems.length + spare.length = cap := by
  obtain ⟨a0, len, cap, rfl⟩ := okWide_slice Try.underlying28 hv
  obtain ⟨fuel, hf⟩ := h
  rcases open_slice_pairs Try.underlying28 Try.underlying23 Try.cells23 rfl rfl (by kernel_rfl) (by kernel_rfl) hf with ⟨hcs, hx⟩ | ⟨a, len', cap', m, n, V0, V1, D0, D1, P0, P1, hcs, _, hl, hm, hmm, hx, hcell⟩
  · simp [Value.cells] at hcs
    obtain ⟨rfl, rfl, rfl⟩ := hcs
    simp only [Prod.mk.injEq] at hx
    exact Or.inl ⟨rfl, hx.1⟩
  · simp [Value.cells] at hcs
    obtain ⟨rfl, rfl, rfl⟩ := hcs
    simp only [if_true] at hmm
    subst hmm
    simp only [Prod.mk.injEq] at hx
    have each : ∀ i, i < m → ∃ q : Int × Int, W.cell? (a.add (i * 2)) = some (.int .i64 q.1) ∧ W.cell? (a.add (i * 2 + 1)) = some (.int .i64 q.2) ∧ (Lit.int .i64 q.1).wf = true ∧ (Lit.int .i64 q.2).wf = true := by
      intro i hi
      obtain ⟨e0, e1, e2, e3⟩ := hcell i hi
      obtain ⟨x, f0, _, wx⟩ := DataW.trod_int Try.underlying3 e2
      obtain ⟨y, f1, _, wy⟩ := DataW.trod_int Try.underlying3 e3
      refine ⟨(x, y), ?_, ?_, wx, wy⟩
      · rw [e0]; simpa using f0
      · rw [e1]; simpa using f1
    obtain ⟨q, hq⟩ := choose_lt each
    refine Or.inr ⟨a, m, (List.range len).map q, _, _, by simp, by simpa using hl, ?_, ?_, hx.1, by simp; omega⟩
    · intro h0
      have hlen : 0 < len := by simpa using h0
      obtain ⟨b, off, spot⟩ := a
      have hspot : spot = none := by simpa [Addr.add] using World.cell?_spot (hq 0 (by omega)).1
      subst hspot
      refine ⟨b, off, rfl, ?_, World.block_lt_of_cell? W _ (hq 0 (by omega)).1⟩
      intro i hi
      have hi' : i < len := by simpa using hi
      have := hq i (by omega)
      rw [add_plain, add_plain] at this
      simp only [List.getElem_map, List.getElem_range]
      exact ⟨this.1, by have := this.2.1; rwa [← Nat.add_assoc] at this⟩
    · intro p hp
      obtain ⟨i, hi, rfl⟩ := List.mem_map.1 hp
      have := hq i (by have := List.mem_range.1 hi; omega)
      have h1 := bounds_i64 this.2.2.1
      have h2 := bounds_i64 this.2.2.2
      omega

theorem same_lifted (os : Os) (started : os.Started) (H : Type) (enc : TypeId × Value → H) :
    ReturnsInHanded {} Try.checked os 11 .any (Rows.sameSpec.pre6 enc Try.prog Try.f11 Rows.sameRow.domain false) (Rows.sameSpec.post enc Try.prog Try.f11 false true false false) := by
  refine returnsInHanded_of_change_sized (C := Try.checked) Try.own started (by kernel_rfl) Try.func11
    (ChangeSpec.witness6 (enc := enc) (C := Try.checked) false ⟨#[], #[.slice none 0 0], []⟩ 8 (by kernel_rfl) (by kernel_rfl) (by kernel_rfl) (by kernel_rfl)) ?_
  intro W base args ds gs before hval0 hW hcnd hwt _
  have hval : ∀ (j : Nat) t v, Try.f11.params[j]? = some t → args[j]? = some v → Value.okWide Try.prog W .any base t v := hval0
  have hwt' : (DataW.weightsEach Try.prog (Try.f11.params.toList ++ Rows.sameSpec.plain.varTypes Try.prog) (ds ++ gs)).all (· ≤ reachBytes) = true := hwt
  have hW' := hW
  obtain ⟨p, q, hA0, hV, rfl, _, _⟩ := hW
  have hA : DataW.TrodAll enc Try.prog W 0 (fun _ => true) true Try.f11.params.toList args.toList ds p := hA0
  rw [Try.params11] at hA hval hwt'
  obtain ⟨v0, d0, rfl, rfl, h0⟩ := trodAll_one hA
  obtain ⟨rfl, rfl⟩ := trodVars_none hV
  clear hA0 hval0 hwt
  have hlt : ∀ x ∈ p, x.block < W.heap.size := fun x hx => by
    have := hW'.lt x (by simp [hx])
    simpa using this
  have hargs : ∀ (W' : World), Below W.heap.size W W' → DataW.Trod enc Try.prog W' 0 (fun b => decide (b < W.heap.size)) true 28 v0 d0 p :=
    fun W' hn => Below.trod sameLaid (by kernel_rfl) (of_decide_eq_true (by kernel_rfl)) h0 hn hlt
  have fin : Calls Try.prog 11 #[v0] W fun e w' => e = .returned (.bool true) ∧ Hid (New W w') := by
    rcases open_list (hval 0 28 v0 rfl rfl) h0 with ⟨rfl, _⟩ | ⟨a, cap, l, elems, spare, rfl, hl, hp, hin, rfl, hcap⟩
    · exact same_law _ tri_now none 0 [] W (fun h => by simp at h) (fun p h => by simp at h) (by omega) (by simp)
    · have hsz := sized_slice hwt' (j := 0) (t := 28) (e := 23) rfl rfl Try.underlying28
      rw [hcap, sameBytes, show reachBytes = 140737488351232 from rfl] at hsz
      exact same_law _ tri_now (some a) cap l W hp hin (by omega) hl
  refine fin.mono fun e W' ⟨he, hn⟩ => ?_
  subst he
  exact ⟨_, rfl, _, _, _, [], _, [], hW', trodAll_mk1 (shut_bool Try.underlying4 _), trodAll_mk1 (hargs W' (New.below hn.out)), rfl, (New.below hn.out).frame _, fun h => by cases h⟩

theorem same_holds : Rows.SameSaid :=
  OpenClaim.holds_of_wide 11 Try.f11 rfl rfl rfl rfl rfl rfl rfl ⟨rfl, rfl, rfl, rfl, rfl⟩ rfl rfl rfl rfl rfl (by kernel_rfl) Try.func11 (by kernel_rfl)
    (of_decide_eq_true (by kernel_rfl)) (by unfold Func.isWrapper; rw [if_neg (of_decide_eq_false (by kernel_rfl))]; exact ⟨rfl, rfl⟩)
    (fun os started H enc _ => same_lifted os started H enc)

#print axioms same_holds
end Go.Proofs.Ytimhlpiekipnhaa
