/- For every list of points, nil too, and every point the law Insides returns true: plumb.Within tells what the document says of a polygon and a point, refuses what it refuses, and writes into nothing. No condition. -/
import Derived.Test.YtgeoffpcmkofkaaSides
import Derived.Test.YtgeoffpcmkofkaaYq
import Derived.Deep.SlicePairs
import Derived.SizedLaws
import Derived.Carry
namespace Go.Proofs.Ytgeoffpcmkofkaa
open Go.ChangeShapes Go.WideShapes Go.ChangeAt Go.RowKit Go.Joins Go.Deep Fl
set_option maxRecDepth 100000

theorem insidesLaid : laidOutB Try.prog = true := by kernel_rfl
theorem insidesBytes : Try.prog.bytesOf 23 = 16 := by kernel_rfl

/-- A list of points, opened. -/
theorem open_pts {H : Type} {enc : TypeId × Value → H} {W : World} {b0 : Nat} {r : Reach} {v : Value} {d : DataW H} {p : List MemPlace} (hv : Value.okWide Try.prog W r b0 28 v) (h : DataW.Trod enc Try.prog W 0 (fun _ => true) true 28 v d p) :
    (v = .slice none 0 0 ∧ d = .nil) ∨ ∃ (a : Addr) (cap : Nat) (l : Pts) (elems spare : List (DataW H)), v = .slice (some a) l.length cap ∧ l.length ≤ cap ∧ PolyAt W (some a) l ∧ In64 l ∧ d = .slice elems spare ∧ elems.length + spare.length = cap := by
  obtain ⟨a0, len, cap, rfl⟩ := okWide_slice Try.underlying28 hv
  obtain ⟨fuel, hf⟩ := h
  rcases open_slice_pairs Try.underlying28 Try.underlying23 Try.cells23 rfl rfl (by kernel_rfl) (by kernel_rfl) hf with ⟨hcs, hx⟩ | ⟨a, len', cap', m, n, V0, V1, D0, D1, P0, P1, hcs, _, hl, hm, hmm, hx, hcell⟩
  · simp [Value.cells] at hcs
    obtain ⟨rfl, rfl, rfl⟩ := hcs
    simp only [Prod.mk.injEq] at hx
    exact Or.inl ⟨rfl, hx.1⟩
  · simp [Value.cells] at hcs
    obtain ⟨rfl, rfl, rfl⟩ := hcs
    simp only [if_true] at hmm
    subst hmm
    simp only [Prod.mk.injEq] at hx
    have each : ∀ i, i < m → ∃ q : Int × Int, W.cell? (a.add (i * 2)) = some (.int .i64 q.1) ∧ W.cell? (a.add (i * 2 + 1)) = some (.int .i64 q.2) ∧ (Lit.int .i64 q.1).wf = true ∧ (Lit.int .i64 q.2).wf = true := by
      intro i hi
      obtain ⟨e0, e1, e2, e3⟩ := hcell i hi
      obtain ⟨x, f0, _, wx⟩ := DataW.trod_int Try.underlying3 e2
      obtain ⟨y, f1, _, wy⟩ := DataW.trod_int Try.underlying3 e3
      refine ⟨(x, y), ?_, ?_, wx, wy⟩
      · rw [e0]; simpa using f0
      · rw [e1]; simpa using f1
    obtain ⟨q, hq⟩ := choose_lt each
    refine Or.inr ⟨a, m, (List.range len).map q, _, _, by simp, by simpa using hl, ?_, ?_, hx.1, by simp; omega⟩
    · intro h0
      have hlen : 0 < len := by simpa using h0
      obtain ⟨b, off, spot⟩ := a
      have hspot : spot = none := by simpa [Addr.add] using World.cell?_spot (hq 0 (by omega)).1
      subst hspot
      refine ⟨b, off, rfl, ?_, World.block_lt_of_cell? W _ (hq 0 (by omega)).1⟩
      intro i hi
      have hi' : i < len := by simpa using hi
      have := hq i (by omega)
      rw [add_plain, add_plain] at this
      simp only [List.getElem_map, List.getElem_range]
      exact ⟨this.1, by have := this.2.1; rwa [← Nat.add_assoc] at this⟩
    · intro p hp
      obtain ⟨i, hi, rfl⟩ := List.mem_map.1 hp
      have := hq i (by have := List.mem_range.1 hi; omega)
      have h1 := bounds_i64 this.2.2.1
      have h2 := bounds_i64 this.2.2.2
      omega

theorem insides_lifted (os : Os) (started : os.Started) (H : Type) (enc : TypeId × Value → H) :
    ReturnsInHanded {} Try.checked os 7 .any (Rows.insidesSpec.pre6 enc Try.prog Try.f7 Rows.insidesRow.domain false) (Rows.insidesSpec.post enc Try.prog Try.f7 false true false false) := by
  refine returnsInHanded_of_change_sized (C := Try.checked) Try.own started (by kernel_rfl) Try.func7
    (ChangeSpec.witness6 (enc := enc) (C := Try.checked) false ⟨#[], #[.slice none 0 0, .agg #[.int .i64 0, .int .i64 0]], []⟩ 8 (by kernel_rfl) (by kernel_rfl) (by kernel_rfl) (by kernel_rfl)) ?_
  intro W base args ds gs before hval0 hW hcnd hwt _
  have hval : ∀ (j : Nat) t v, Try.f7.params[j]? = some t → args[j]? = some v → Value.okWide Try.prog W .any base t v := hval0
  have hwt' : (DataW.weightsEach Try.prog (Try.f7.params.toList ++ Rows.insidesSpec.plain.varTypes Try.prog) (ds ++ gs)).all (· ≤ reachBytes) = true := hwt
  have hW' := hW
  obtain ⟨p, q, hA0, hV, rfl, _, _⟩ := hW
  have hA : DataW.TrodAll enc Try.prog W 0 (fun _ => true) true Try.f7.params.toList args.toList ds p := hA0
  rw [Try.params7] at hA hval hwt'
  obtain ⟨v0, v1, d0, d1, p0, p1, rfl, rfl, rfl, h0, h1⟩ := trodAll_two hA
  obtain ⟨rfl, rfl⟩ := trodVars_none hV
  obtain ⟨px, py, rfl, rfl, rfl, wpx, wpy⟩ := open_pt (hval 1 23 v1 rfl rfl) h1
  clear hA0 hval0 hwt
  have hlt : ∀ x ∈ p0, x.block < W.heap.size := fun x hx => by
    have := hW'.lt x (by simp [hx])
    simpa using this
  have hargs : ∀ (W' : World), Below W.heap.size W W' → DataW.Trod enc Try.prog W' 0 (fun b => decide (b < W.heap.size)) true 28 v0 d0 p0 :=
    fun W' hn => Below.trod insidesLaid (by kernel_rfl) (of_decide_eq_true (by kernel_rfl)) h0 hn hlt
  have fin : Calls Try.prog 7 #[v0, .agg #[.int .i64 px, .int .i64 py]] W fun e w' => e = .returned (.bool true) ∧ Hid (New W w') := by
    rcases open_pts (hval 0 28 v0 rfl rfl) h0 with ⟨rfl, _⟩ | ⟨a, cap, l, elems, spare, rfl, hl, hp, _, rfl, hcap⟩
    · exact insides_nil px py W
    · have hsz := sized_slice hwt' (j := 0) (t := 28) (e := 23) rfl rfl Try.underlying28
      rw [hcap, insidesBytes, show reachBytes = 140737488351232 from rfl] at hsz
      exact insides_some a cap l px py W hp (by omega) hl
  refine fin.mono fun e W' ⟨he, hn⟩ => ?_
  subst he
  exact ⟨_, rfl, _, _, _, [], _, [], hW', trodAll_mk1 (shut_bool Try.underlying4 _), trodAll_mk2 (hargs W' (New.below hn.out)) (shut_pt wpx wpy), rfl, (New.below hn.out).frame _, fun h => by cases h⟩

theorem insides_holds : Rows.InsidesSaid :=
  OpenClaim.holds_of_wide 7 Try.f7 rfl rfl rfl rfl rfl rfl rfl ⟨rfl, rfl, rfl, rfl, rfl⟩ rfl rfl rfl rfl rfl (by kernel_rfl) Try.func7 (by kernel_rfl)
    (of_decide_eq_true (by kernel_rfl)) (by unfold Func.isWrapper; rw [if_neg (of_decide_eq_false (by kernel_rfl))]; exact ⟨rfl, rfl⟩)
    (fun os started H enc _ => insides_lifted os started H enc)

#print axioms insides_holds
end Go.Proofs.Ytgeoffpcmkofkaa
