/- The walks of 'meetInLine' and 'Meet' of package segment. -/
import Derived.Test.YtgeoffpcmkofkaaYc
namespace Go.Proofs.Ytgeoffpcmkofkaa
open Go.RowKit Fl
set_option maxRecDepth 100000
attribute [local go_sem ↓] Go.wp_at_zero Go.wp_at_succ

theorem New.kept {w1 w2 : World} (h : New w1 w2) {b o : Nat} {v : Value} (hc : w1.cell? ⟨b, o, none⟩ = some v) : w2.cell? ⟨b, o, none⟩ = some v :=
  (h.rule b o (World.block_lt_of_cell? w1 _ hc)).trans hc
theorem behind2 {w1 : World} {b o : Nat} {v : Value} (hc : w1.cell? ⟨b, o, none⟩ = some v) : ∀ o1 o2, ((w1.alloc o1).alloc o2).cell? ⟨b, o, none⟩ = some v := fun o1 o2 => ((New.alloc w1 o1).alloc' o2).kept hc

set_option maxHeartbeats 1600000 in
theorem line_any (ax ay bx by' cx cy dx dy : Int) (w : World) (ha : CdP (ax, ay)) (hb : CdP (bx, by')) (hc : CdP (cx, cy)) (hd : CdP (dx, dy)) :
    Calls Try.prog 64 #[.agg #[.int .i64 ax, .int .i64 ay, .int .i64 bx, .int .i64 by'], .agg #[.int .i64 cx, .int .i64 cy, .int .i64 dx, .int .i64 dy]] w fun e w' => e = .returned (.int .i64 (lineN (ax, ay) (bx, by') (cx, cy) (dx, dy))) ∧ Hid (New w w') := by
  go_enter Try.func64, Try.ntmps64
  go_wp2_with fail
  refine (sorted_any ax ay bx by' _ ha hb).mono ?_
  rintro e w1 ⟨fx, fy, lx, ly, rfl, HK1, H1⟩
  have HW1 : Hid (New w w1) := ((New.alloc _ _).alloc' _).trans' H1.out
  have t0 := behind2 (show w1.cell? ⟨w.heap.size + 1, 0, none⟩ = some (.int .i64 cx) by rw [H1.out.rule _ _ (by simp)]; go_simp)
  have t1 := behind2 (show w1.cell? ⟨w.heap.size + 1, 1, none⟩ = some (.int .i64 cy) by rw [H1.out.rule _ _ (by simp)]; go_simp)
  have t2 := behind2 (show w1.cell? ⟨w.heap.size + 1, 2, none⟩ = some (.int .i64 dx) by rw [H1.out.rule _ _ (by simp)]; go_simp)
  have t3 := behind2 (show w1.cell? ⟨w.heap.size + 1, 3, none⟩ = some (.int .i64 dy) by rw [H1.out.rule _ _ (by simp)]; go_simp)
  clear H1
  go_wp2_with fail
  refine (sorted_any cx cy dx dy _ hc hd).mono ?_
  rintro e w2 ⟨gx, gy, mx, my, rfl, HK2, H2⟩
  have HW2 : Hid (New w w2) := ((HW1.out.alloc' _).alloc' _).trans' H2.out
  have HC : Hid ((CdP (fx, fy) ∧ CdP (lx, ly)) ∧ (CdP (gx, gy) ∧ CdP (mx, my))) := ⟨Srt.cd HK1.out ha hb, Srt.cd HK2.out hc hd⟩
  have f0 := behind2 (show w2.cell? ⟨w1.heap.size, 0, none⟩ = some (.int .i64 fx) by rw [H2.out.rule _ _ (by simp; omega)]; go_simp)
  have f1 := behind2 (show w2.cell? ⟨w1.heap.size, 1, none⟩ = some (.int .i64 fy) by rw [H2.out.rule _ _ (by simp; omega)]; go_simp)
  have l0 : w2.cell? ⟨w1.heap.size + 1, 0, none⟩ = some (.int .i64 lx) := by rw [H2.out.rule _ _ (by simp)]; go_simp
  have l1 : w2.cell? ⟨w1.heap.size + 1, 1, none⟩ = some (.int .i64 ly) := by rw [H2.out.rule _ _ (by simp)]; go_simp
  clear t0 t1 t2 t3 H2
  go_wp2_with fail
  refine (sorted_any fx fy gx gy _ HC.out.1.1 HC.out.2.1).mono ?_
  rintro e w3 ⟨hx, hy, nx, ny, rfl, HK3, H3⟩
  have HW3 : Hid (New w w3) := ((HW2.out.alloc' _).alloc' _).trans' H3.out
  have HC3 : Hid (CdP (hx, hy) ∧ CdP (nx, ny)) := Srt.cd HK3.out HC.out.1.1 HC.out.2.1
  have l0' : w3.cell? ⟨w1.heap.size + 1, 0, none⟩ = some (.int .i64 lx) := H3.out.kept (behind2 l0 _ _)
  have l1' : w3.cell? ⟨w1.heap.size + 1, 1, none⟩ = some (.int .i64 ly) := H3.out.kept (behind2 l1 _ _)
  have m0 : w3.cell? ⟨w2.heap.size + 1, 0, none⟩ = some (.int .i64 mx) := by rw [H3.out.rule _ _ (by simp)]; go_simp
  have m1 : w3.cell? ⟨w2.heap.size + 1, 1, none⟩ = some (.int .i64 my) := by rw [H3.out.rule _ _ (by simp)]; go_simp
  have l0a := behind2 l0'
  have l1a := behind2 l1'
  have m0a := behind2 m0
  have m1a := behind2 m1
  clear H3 f0 f1 l0 l1
  go_wp2_with fail
  refine (sorted_any lx ly mx my _ HC.out.1.2 HC.out.2.2).mono ?_
  rintro e w4 ⟨ix, iy, ox, oy, rfl, HK4, H4⟩
  have HW4 : Hid (New w w4) := ((HW3.out.alloc' _).alloc' _).trans' H4.out
  have HC4 : Hid (CdP (ix, iy) ∧ CdP (ox, oy)) := Srt.cd HK4.out HC.out.1.2 HC.out.2.2
  have n0 : w4.cell? ⟨w3.heap.size + 1, 0, none⟩ = some (.int .i64 nx) := by rw [H4.out.rule _ _ (by simp)]; go_simp
  have n1 : w4.cell? ⟨w3.heap.size + 1, 1, none⟩ = some (.int .i64 ny) := by rw [H4.out.rule _ _ (by simp)]; go_simp
  have n0a := behind2 n0
  have n1a := behind2 n1
  clear H4 l0' l1' m0 m1 l0a l1a m0a m1a
  have HE : Hid (cmpP (ix, iy) (nx, ny) = sgn (K (ix, iy) - K (nx, ny))) := cmpP_eq HC4.out.1 HC3.out.2
  have HV : Hid ((0 < cmpP (ix, iy) (nx, ny) → lineN (ax, ay) (bx, by') (cx, cy) (dx, dy) = 3) ∧ (cmpP (ix, iy) (nx, ny) = 0 → lineN (ax, ay) (bx, by') (cx, cy) (dx, dy) = 2) ∧ (cmpP (ix, iy) (nx, ny) < 0 → lineN (ax, ay) (bx, by') (cx, cy) (dx, dy) = 0)) := by
    have k1 := HK1.out
    have k2 := HK2.out
    have k3 := HK3.out.2.1
    have k4 := HK4.out.1
    rw [k1.1, k2.1] at k3
    rw [k1.2.1, k2.2.1] at k4
    rw [Hid, HE.out, sgn_pos, sgn_zero, sgn_neg']
    unfold lineN
    rw [← k3, ← k4]
    refine ⟨fun h => by rw [if_pos (by omega)], fun h => by rw [if_neg (by omega), if_pos (by omega)], fun h => by rw [if_neg (by omega), if_neg (by omega)]⟩
  clear HK1 HK2 HK3 HK4 HC HC3 HC4 HE
  go_wp2_with fail
  refine (compare_any ix iy nx ny _).mono ?_
  rintro e w5 ⟨rfl, H5⟩
  have HW5 : Hid (New w w5) := ((HW4.out.alloc' _).alloc' _).trans' H5.out
  clear H5
  rcases Int.lt_trichotomy (cmpP (ix, iy) (nx, ny)) 0 with h | h | h
  · have HR : Hid (lineN (ax, ay) (bx, by') (cx, cy) (dx, dy) = 0) := HV.out.2.2 h
    go_wp2_with fail
    go_ret
    exact ⟨by rw [HR.out]; rfl, HW5⟩
  · have HR : Hid (lineN (ax, ay) (bx, by') (cx, cy) (dx, dy) = 2) := HV.out.2.1 h
    go_wp2_with fail
    go_ret
    exact ⟨by rw [HR.out]; rfl, HW5⟩
  · have HR : Hid (lineN (ax, ay) (bx, by') (cx, cy) (dx, dy) = 3) := HV.out.1 h
    go_wp2_with fail
    go_ret
    exact ⟨by rw [HR.out]; rfl, HW5⟩

end Go.Proofs.Ytgeoffpcmkofkaa
