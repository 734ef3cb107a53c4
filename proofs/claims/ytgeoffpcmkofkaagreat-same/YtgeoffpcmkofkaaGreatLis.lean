/- A list of points that came in, opened. -/
import Derived.Test.YtgeoffpcmkofkaaGreatRows
import Derived.Test.YtgeoffpcmkofkaaGreatYo
import Derived.Test.YtgeoffpcmkofkaaGreatXd
import Derived.Deep.SlicePairs
import Derived.ProofKit
import Derived.OpenShut
import Derived.Lib.SmallJoins
import Derived.SizedLaws
import Derived.Carry
namespace Go.Proofs.YtgeoffpcmkofkaaGreat
open Go.ChangeShapes Go.WideShapes Go.ChangeAt Go.RowKit Go.Joins Go.Deep Fl
set_option maxRecDepth 100000

theorem Tryz.own : ownKnob Tryz.prog.godebug = none := by kernel_rfl
theorem New.below {w w' : World} (h : New w w') : Below w.heap.size w w' := ⟨h.os, h.tape, h.output, h.size, fun k hk => h.block k hk (by simp)⟩
theorem Tryz.cells36 : Tryz.prog.cellsOf 36 = 2 := by kernel_rfl
theorem sameLaid : laidOutB Tryz.prog = true := by kernel_rfl
theorem sameBytes : Tryz.prog.bytesOf 36 = 16 := by kernel_rfl

/-- A list of points, opened. -/
theorem open_list {H : Type} {enc : TypeId × Value → H} {W : World} {b0 : Nat} {r : Reach} {v : Value} {d : DataW H} {p : List MemPlace} (hv : Value.okWide Tryz.prog W r b0 22 v) (h : DataW.Trod enc Tryz.prog W 0 (fun _ => true) true 22 v d p) :
    (v = .slice none 0 0 ∧ d = .nil) ∨ ∃ (a : Addr) (cap : Nat) (l : Pts) (elems spare : List (DataW H)), v = .slice (some a) l.length cap ∧ l.length ≤ cap ∧ PolyAt W (some a) l ∧ In64 l ∧ d = .slice elems spare ∧ elems.length + spare.length = cap := by
  obtain ⟨a0, len, cap, rfl⟩ := okWide_slice Tryz.underlying22 hv
  obtain ⟨fuel, hf⟩ := h
  rcases open_slice_pairs Tryz.underlying22 Tryz.underlying36 Tryz.cells36 rfl rfl (by kernel_rfl) (by kernel_rfl) hf with ⟨hcs, hx⟩ | ⟨a, len', cap', m, n, V0, V1, D0, D1, P0, P1, hcs, _, hl, hm, hmm, hx, hcell⟩
  · simp [Value.cells] at hcs
    obtain ⟨rfl, rfl, rfl⟩ := hcs
    simp only [Prod.mk.injEq] at hx
    exact Or.inl ⟨rfl, hx.1⟩
  · simp [Value.cells] at hcs
    obtain ⟨rfl, rfl, rfl⟩ := hcs
    simp only [if_true] at hmm
    subst hmm
    simp only [Prod.mk.injEq] at hx
    have each : ∀ i, i < m → ∃ q : Int × Int, W.cell? (a.add (i * 2)) = some (.int .i64 q.1) ∧ W.cell? (a.add (i * 2 + 1)) = some (.int .i64 q.2) ∧ (Lit.int .i64 q.1).wf = true ∧ (Lit.int .i64 q.2).wf = true := by
      intro i hi
      obtain ⟨e0, e1, e2, e3⟩ := hcell i hi
      obtain ⟨x, f0, _, wx⟩ := DataW.trod_int Tryz.underlying3 e2
      obtain ⟨y, f1, _, wy⟩ := DataW.trod_int Tryz.underlying3 e3
      refine ⟨(x, y), ?_, ?_, wx, wy⟩
      · rw [e0]; simpa using f0
      · rw [e1]; simpa using f1
    obtain ⟨q, hq⟩ := choose_lt each
    refine Or.inr ⟨a, m, (List.range len).map q, _, _, by simp, by simpa using hl, ?_, ?_, hx.1, by simp; omega⟩
    · intro h0
      have hlen : 0 < len := by simpa using h0
      obtain ⟨b, off, spot⟩ := a
      have hspot : spot = none := by simpa [Addr.add] using World.cell?_spot (hq 0 (by omega)).1
      subst hspot
      refine ⟨b, off, rfl, ?_, World.block_lt_of_cell? W _ (hq 0 (by omega)).1⟩
      intro i hi
      have hi' : i < len := by simpa using hi
      have := hq i (by omega)
      rw [add_plain, add_plain] at this
      simp only [List.getElem_map, List.getElem_range]
      exact ⟨this.1, by have := this.2.1; rwa [← Nat.add_assoc] at this⟩
    · intro p hp
      obtain ⟨i, hi, rfl⟩ := List.mem_map.1 hp
      have := hq i (by have := List.mem_range.1 hi; omega)
      have h1 := bounds_i64 this.2.2.1
      have h2 := bounds_i64 this.2.2.2
      omega

end Go.Proofs.YtgeoffpcmkofkaaGreat
