/- The walk of 'Sorted' of package order. -/
import Derived.Test.YtgeoffpcmkofkaaYa
import Derived.Test.YtgeoffpcmkofkaaWt
namespace Go.Proofs.Ytgeoffpcmkofkaa
open Go.RowKit Fl
set_option maxRecDepth 100000
attribute [local go_sem ↓] Go.wp_at_zero Go.wp_at_succ

theorem set_other {W : World} {b k i o : Nat} {x : Value} (h : k ≠ b) : (W.setCell ⟨b, i, none⟩ x).cell? ⟨k, o, none⟩ = W.cell? ⟨k, o, none⟩ :=
  World.cell?_of_block (a := ⟨k, o, none⟩) (heap_setCell_other W ⟨b, i, none⟩ k x h)
theorem New.set {w w1 : World} (h : New w w1) {b o : Nat} (hb : w.heap.size ≤ b) (x : Value) : New w (w1.setCell ⟨b, o, none⟩ x) :=
  Below.new' ((New.below' h).setCell (p := ⟨b, o, none⟩) hb x)
theorem drew_cell {W : World} {a : Addr} : W.drew.cell? a = W.cell? a := rfl

set_option maxHeartbeats 800000 in
theorem sorted_yes (ax ay bx by' : Int) (w : World) (h : 0 < cmpP (ax, ay) (bx, by')) :
    Calls Try.prog 84 #[.agg #[.int .i64 ax, .int .i64 ay], .agg #[.int .i64 bx, .int .i64 by']] w fun e w' => e = .returned (.tuple #[.agg #[.int .i64 bx, .int .i64 by'], .agg #[.int .i64 ax, .int .i64 ay]]) ∧ Hid (New w w') := by
  go_enter Try.func84, Try.ntmps84
  go_wp2_with fail
  refine (compare_any ax ay bx by' _).mono ?_
  rintro e w1 ⟨rfl, H1⟩
  have HW : Hid (New w w1) := ((((New.alloc _ _).alloc' _).alloc' _).alloc' _).trans' H1.out
  have a0 : w1.cell? ⟨w.heap.size, 0, none⟩ = some (.int .i64 ax) := by rw [H1.out.rule _ _ (by simp; omega)]; go_simp
  have a1 : w1.cell? ⟨w.heap.size, 1, none⟩ = some (.int .i64 ay) := by rw [H1.out.rule _ _ (by simp; omega)]; go_simp
  have b0 : w1.cell? ⟨w.heap.size + 1, 0, none⟩ = some (.int .i64 bx) := by rw [H1.out.rule _ _ (by simp)]; go_simp
  have b1 : w1.cell? ⟨w.heap.size + 1, 1, none⟩ = some (.int .i64 by') := by rw [H1.out.rule _ _ (by simp)]; go_simp
  have u0 : w1.cell? ⟨w.heap.size + 1 + 1, 0, none⟩ = some (.int .i64 0) := by rw [H1.out.rule _ _ (by simp)]; go_simp
  have u1 : w1.cell? ⟨w.heap.size + 1 + 1, 1, none⟩ = some (.int .i64 0) := by rw [H1.out.rule _ _ (by simp)]; go_simp
  have v0 : w1.cell? ⟨w.heap.size + 1 + 1 + 1, 0, none⟩ = some (.int .i64 0) := by rw [H1.out.rule _ _ (by simp)]; go_simp
  have v1 : w1.cell? ⟨w.heap.size + 1 + 1 + 1, 1, none⟩ = some (.int .i64 0) := by rw [H1.out.rule _ _ (by simp)]; go_simp
  have fu : ∀ o, w1.frozen? ⟨w.heap.size + 1 + 1, o, none⟩ = false := fun o => by rw [H1.out.frule' _ _ (by simp)]; go_simp
  have fv : ∀ o, w1.frozen? ⟨w.heap.size + 1 + 1 + 1, o, none⟩ = false := fun o => by rw [H1.out.frule' _ _ (by simp)]; go_simp
  clear H1
  have n1 : w.heap.size ≠ w.heap.size + 1 + 1 := by omega
  have n2 : w.heap.size ≠ w.heap.size + 1 + 1 + 1 := by omega
  have n3 : w.heap.size + 1 ≠ w.heap.size + 1 + 1 := by omega
  have n4 : w.heap.size + 1 ≠ w.heap.size + 1 + 1 + 1 := by omega
  have n5 : w.heap.size + 1 + 1 ≠ w.heap.size + 1 + 1 + 1 := by omega
  have HB : Hid (w.heap.size ≤ w.heap.size + 1 + 1 ∧ w.heap.size ≤ w.heap.size + 1 + 1 + 1) := ⟨by omega, by omega⟩
  go_wp2_with fail
  generalize w.heap.size + 1 + 1 + 1 = B3 at *
  generalize w.heap.size + 1 + 1 = B2 at *
  go_region_held3 (fun w' => w'.cell? ⟨w.heap.size, 0, none⟩ = some (.int .i64 ax) ∧ w'.cell? ⟨w.heap.size, 1, none⟩ = some (.int .i64 ay) ∧ w'.cell? ⟨w.heap.size + 1, 0, none⟩ = some (.int .i64 bx) ∧ w'.cell? ⟨w.heap.size + 1, 1, none⟩ = some (.int .i64 by'))
    (first
      | (simp only [drew_cell, set_other n1, set_other n2, set_other n3, set_other n4]; exact ⟨a0, a1, b0, b1⟩)
      | go_keep)
    (first
      | fail)
  go_wp2_with fail
  refine bodyPost_ret (v := .tuple #[.agg #[.int .i64 bx, .int .i64 by'], .agg #[.int .i64 ax, .int .i64 ay]]) (by simp [results, Try.results84, go_sem, u0, u1, v0, v1]) rfl ?_
  exact ⟨rfl, ((((HW.out.set HB.out.1 _).set HB.out.1 _).set HB.out.2 _).set HB.out.2 _).drewN 1⟩

set_option maxHeartbeats 800000 in
theorem sorted_no (ax ay bx by' : Int) (w : World) (h : cmpP (ax, ay) (bx, by') ≤ 0) :
    Calls Try.prog 84 #[.agg #[.int .i64 ax, .int .i64 ay], .agg #[.int .i64 bx, .int .i64 by']] w fun e w' => e = .returned (.tuple #[.agg #[.int .i64 ax, .int .i64 ay], .agg #[.int .i64 bx, .int .i64 by']]) ∧ Hid (New w w') := by
  go_enter Try.func84, Try.ntmps84
  go_wp2_with fail
  refine (compare_any ax ay bx by' _).mono ?_
  rintro e w1 ⟨rfl, H1⟩
  have HW : Hid (New w w1) := ((((New.alloc _ _).alloc' _).alloc' _).alloc' _).trans' H1.out
  have a0 : w1.cell? ⟨w.heap.size, 0, none⟩ = some (.int .i64 ax) := by rw [H1.out.rule _ _ (by simp; omega)]; go_simp
  have a1 : w1.cell? ⟨w.heap.size, 1, none⟩ = some (.int .i64 ay) := by rw [H1.out.rule _ _ (by simp; omega)]; go_simp
  have b0 : w1.cell? ⟨w.heap.size + 1, 0, none⟩ = some (.int .i64 bx) := by rw [H1.out.rule _ _ (by simp)]; go_simp
  have b1 : w1.cell? ⟨w.heap.size + 1, 1, none⟩ = some (.int .i64 by') := by rw [H1.out.rule _ _ (by simp)]; go_simp
  have u0 : w1.cell? ⟨w.heap.size + 1 + 1, 0, none⟩ = some (.int .i64 0) := by rw [H1.out.rule _ _ (by simp)]; go_simp
  have u1 : w1.cell? ⟨w.heap.size + 1 + 1, 1, none⟩ = some (.int .i64 0) := by rw [H1.out.rule _ _ (by simp)]; go_simp
  have v0 : w1.cell? ⟨w.heap.size + 1 + 1 + 1, 0, none⟩ = some (.int .i64 0) := by rw [H1.out.rule _ _ (by simp)]; go_simp
  have v1 : w1.cell? ⟨w.heap.size + 1 + 1 + 1, 1, none⟩ = some (.int .i64 0) := by rw [H1.out.rule _ _ (by simp)]; go_simp
  have fu : ∀ o, w1.frozen? ⟨w.heap.size + 1 + 1, o, none⟩ = false := fun o => by rw [H1.out.frule' _ _ (by simp)]; go_simp
  have fv : ∀ o, w1.frozen? ⟨w.heap.size + 1 + 1 + 1, o, none⟩ = false := fun o => by rw [H1.out.frule' _ _ (by simp)]; go_simp
  clear H1
  have n1 : w.heap.size ≠ w.heap.size + 1 + 1 := by omega
  have n2 : w.heap.size ≠ w.heap.size + 1 + 1 + 1 := by omega
  have n3 : w.heap.size + 1 ≠ w.heap.size + 1 + 1 := by omega
  have n4 : w.heap.size + 1 ≠ w.heap.size + 1 + 1 + 1 := by omega
  have n5 : w.heap.size + 1 + 1 ≠ w.heap.size + 1 + 1 + 1 := by omega
  have HB : Hid (w.heap.size ≤ w.heap.size + 1 + 1 ∧ w.heap.size ≤ w.heap.size + 1 + 1 + 1) := ⟨by omega, by omega⟩
  go_wp2_with fail
  generalize w.heap.size + 1 + 1 + 1 = B3 at *
  generalize w.heap.size + 1 + 1 = B2 at *
  go_region_held3 (fun w' => w'.cell? ⟨w.heap.size, 0, none⟩ = some (.int .i64 ax) ∧ w'.cell? ⟨w.heap.size, 1, none⟩ = some (.int .i64 ay) ∧ w'.cell? ⟨w.heap.size + 1, 0, none⟩ = some (.int .i64 bx) ∧ w'.cell? ⟨w.heap.size + 1, 1, none⟩ = some (.int .i64 by'))
    (first
      | (simp only [drew_cell, set_other n1, set_other n2, set_other n3, set_other n4]; exact ⟨a0, a1, b0, b1⟩)
      | go_keep)
    (first
      | fail)
  go_wp2_with fail
  refine bodyPost_ret (v := .tuple #[.agg #[.int .i64 ax, .int .i64 ay], .agg #[.int .i64 bx, .int .i64 by']]) (by simp [results, Try.results84, go_sem, u0, u1, v0, v1]) rfl ?_
  exact ⟨rfl, ((((HW.out.set HB.out.1 _).set HB.out.1 _).set HB.out.2 _).set HB.out.2 _).drewN 1⟩

/-- Two points, the one that comes first ahead. -/
theorem sorted_any (ax ay bx by' : Int) (w : World) (ha : CdP (ax, ay)) (hb : CdP (bx, by')) :
    Calls Try.prog 84 #[.agg #[.int .i64 ax, .int .i64 ay], .agg #[.int .i64 bx, .int .i64 by']] w fun e w' => ∃ fx fy lx ly : Int, e = .returned (.tuple #[.agg #[.int .i64 fx, .int .i64 fy], .agg #[.int .i64 lx, .int .i64 ly]]) ∧
      Hid (K (fx, fy) = min (K (ax, ay)) (K (bx, by')) ∧ K (lx, ly) = max (K (ax, ay)) (K (bx, by')) ∧ (((fx, fy) = (ax, ay) ∧ (lx, ly) = (bx, by')) ∨ ((fx, fy) = (bx, by') ∧ (lx, ly) = (ax, ay)))) ∧ Hid (New w w') := by
  have hc := cmpP_eq ha hb
  by_cases h : 0 < cmpP (ax, ay) (bx, by')
  · refine (sorted_yes ax ay bx by' w h).mono ?_
    rintro e w1 ⟨rfl, H1⟩
    rw [hc, sgn_pos] at h
    exact ⟨_, _, _, _, rfl, ⟨by omega, by omega, Or.inr ⟨rfl, rfl⟩⟩, H1⟩
  · refine (sorted_no ax ay bx by' w (by omega)).mono ?_
    rintro e w1 ⟨rfl, H1⟩
    rw [hc, sgn_pos] at h
    exact ⟨_, _, _, _, rfl, ⟨by omega, by omega, Or.inl ⟨rfl, rfl⟩⟩, H1⟩

end Go.Proofs.Ytgeoffpcmkofkaa
