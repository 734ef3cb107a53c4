/- Xc; Xd: texts laid into one. -/
import Derived.Test.YtgeoffpcmkofkaaRaf
/- The walks of package plumbkeep: 'at', 'near', 'fit', 'mirrored', 'turned', 'moved', 'halved', 'side', 'circle'. -/
namespace Go.Proofs.Ytgeoffpcmkofkaa
open Go.RowKit Fl
set_option maxRecDepth 100000

set_option maxHeartbeats 400000 in
theorem at_any (x y : Int) (w : World) : Calls Try.prog 34 #[.int .i64 x, .int .i64 y] w fun e w' => e = .returned (.agg #[.int .i64 x, .int .i64 y]) ∧ Hid (New w w') := by
  go_enter Try.func34, Try.ntmps34
  go_wp2_with fail
  refine bodyPost_ret (v := .agg #[.int .i64 x, .int .i64 y]) (by simp [results, Try.results34, go_sem]) rfl ?_
  exact ⟨rfl, New.alloc w _⟩

set_option maxHeartbeats 400000 in
theorem near_yes (n : Int) (w : World) : Calls Try.prog 46 #[.int .i64 n, .int .i64 0, .int .i64 n] w fun e w' => e = .returned (.bool true) ∧ w = w' := by
  go_enter Try.func46, Try.ntmps46
  go_wp2_with fail
  go_ret
  exact ⟨rfl, rfl⟩

theorem fit_neg {n : Int} (h : n < 0) : Cd (wrap64 (-(n + 1).tmod 18014398509481985 - 9007199254740992)) := by
  have e : -(n + 1).tmod 18014398509481985 = (-(n + 1)) % 18014398509481985 := by rw [← Int.neg_tmod, Int.tmod_eq_emod_of_nonneg (by omega)]
  rw [e]
  unfold wrap64 Cd
  omega

set_option maxHeartbeats 400000 in
theorem fit_any (n : Int) (w : World) (h1 : -9223372036854775808 ≤ n) (h2 : n < 9223372036854775808) : Calls Try.prog 35 #[.int .i64 n] w fun e w' => ∃ r : Int, e = .returned (.int .i64 r) ∧ Hid (Cd r) ∧ w = w' := by
  by_cases h : n < 0
  · have HF : Hid (Cd _) := fit_neg h
    go_enter Try.func35, Try.ntmps35
    go_wp2_with fail
    go_ret
    exact ⟨_, rfl, HF, rfl⟩
  · go_enter Try.func35, Try.ntmps35
    go_wp2_with fail
    go_ret
    exact ⟨_, rfl, by unfold Hid Cd; omega, rfl⟩

theorem tdiv2 {x : Int} (h : Cd x) : -4503599627370496 ≤ x.tdiv 2 ∧ x.tdiv 2 ≤ 4503599627370496 := by
  unfold Cd at h
  rcases Int.le_total 0 x with h0 | h0
  · rw [Int.tdiv_eq_ediv_of_nonneg h0]; omega
  · have e : x = -(-x) := by omega
    rw [e, Int.neg_tdiv, Int.tdiv_eq_ediv_of_nonneg (by omega)]; omega

set_option maxHeartbeats 400000 in
theorem mirrored_any (x y : Int) (w : World) (h1 : Cd x) : Calls Try.prog 20 #[.agg #[.int .i64 x, .int .i64 y]] w fun e w' => e = .returned (.agg #[.int .i64 (-x), .int .i64 (y)]) ∧ Hid (New w w') := by
  have hx1 := h1.1
  have hx2 := h1.2
  go_enter Try.func20, Try.ntmps20
  go_wp2_with fail
  refine (at_any (-x) (y) _).mono ?_
  rintro e w1 ⟨rfl, H1⟩
  have q0 : w1.cell? ⟨w.heap.size + 1, 0, none⟩ = some (.int .i64 0) := by rw [H1.out.rule _ _ (by simp)]; go_simp
  have q1 : w1.cell? ⟨w.heap.size + 1, 1, none⟩ = some (.int .i64 0) := by rw [H1.out.rule _ _ (by simp)]; go_simp
  have f0 : w1.frozen? ⟨w.heap.size + 1, 0, none⟩ = false := by rw [H1.out.frule' _ _ (by simp)]; go_simp
  have f1 : w1.frozen? ⟨w.heap.size + 1, 1, none⟩ = false := by rw [H1.out.frule' _ _ (by simp)]; go_simp
  go_wp2_with fail
  refine bodyPost_ret (v := .agg #[.int .i64 (-x), .int .i64 (y)]) (by simp [results, Try.results20, go_sem, q0, q1]) rfl ?_
  refine ⟨rfl, ?_⟩
  exact Below.new' (((New.below' (((New.alloc w _).alloc' _).trans' H1.out)).setCell (p := ⟨w.heap.size + 1, 0, none⟩) (by simp <;> omega) (.int .i64 (-x))).setCell (p := ⟨w.heap.size + 1, 1, none⟩) (by simp <;> omega) (.int .i64 (y)))

set_option maxHeartbeats 400000 in
theorem turned_any (x y : Int) (w : World) : Calls Try.prog 21 #[.agg #[.int .i64 x, .int .i64 y]] w fun e w' => e = .returned (.agg #[.int .i64 (y), .int .i64 (x)]) ∧ Hid (New w w') := by
  go_enter Try.func21, Try.ntmps21
  go_wp2_with fail
  refine (at_any (y) (x) _).mono ?_
  rintro e w1 ⟨rfl, H1⟩
  have q0 : w1.cell? ⟨w.heap.size + 1, 0, none⟩ = some (.int .i64 0) := by rw [H1.out.rule _ _ (by simp)]; go_simp
  have q1 : w1.cell? ⟨w.heap.size + 1, 1, none⟩ = some (.int .i64 0) := by rw [H1.out.rule _ _ (by simp)]; go_simp
  have f0 : w1.frozen? ⟨w.heap.size + 1, 0, none⟩ = false := by rw [H1.out.frule' _ _ (by simp)]; go_simp
  have f1 : w1.frozen? ⟨w.heap.size + 1, 1, none⟩ = false := by rw [H1.out.frule' _ _ (by simp)]; go_simp
  go_wp2_with fail
  refine bodyPost_ret (v := .agg #[.int .i64 (y), .int .i64 (x)]) (by simp [results, Try.results21, go_sem, q0, q1]) rfl ?_
  refine ⟨rfl, ?_⟩
  exact Below.new' (((New.below' (((New.alloc w _).alloc' _).trans' H1.out)).setCell (p := ⟨w.heap.size + 1, 0, none⟩) (by simp <;> omega) (.int .i64 (y))).setCell (p := ⟨w.heap.size + 1, 1, none⟩) (by simp <;> omega) (.int .i64 (x)))

set_option maxHeartbeats 400000 in
theorem moved_any (x y u v : Int) (w : World) (h1 : Cd x) (h2 : Cd y) (h3 : Cd u) (h4 : Cd v) : Calls Try.prog 22 #[.agg #[.int .i64 x, .int .i64 y], .agg #[.int .i64 u, .int .i64 v]] w fun e w' => e = .returned (.agg #[.int .i64 (x.tdiv 2 + u.tdiv 2), .int .i64 (y.tdiv 2 + v.tdiv 2)]) ∧ Hid (New w w') := by
  have t1 := tdiv2 h1
  have t2 := tdiv2 h2
  have t3 := tdiv2 h3
  have t4 := tdiv2 h4
  have hx1 := h1.1
  have hx2 := h1.2
  have hy1 := h2.1
  have hy2 := h2.2
  have hu1 := h3.1
  have hu2 := h3.2
  have hv1 := h4.1
  have hv2 := h4.2
  go_enter Try.func22, Try.ntmps22
  go_wp2_with fail
  refine (at_any (x.tdiv 2 + u.tdiv 2) (y.tdiv 2 + v.tdiv 2) _).mono ?_
  rintro e w1 ⟨rfl, H1⟩
  have q0 : w1.cell? ⟨w.heap.size + 1 + 1, 0, none⟩ = some (.int .i64 0) := by rw [H1.out.rule _ _ (by simp)]; go_simp
  have q1 : w1.cell? ⟨w.heap.size + 1 + 1, 1, none⟩ = some (.int .i64 0) := by rw [H1.out.rule _ _ (by simp)]; go_simp
  have f0 : w1.frozen? ⟨w.heap.size + 1 + 1, 0, none⟩ = false := by rw [H1.out.frule' _ _ (by simp)]; go_simp
  have f1 : w1.frozen? ⟨w.heap.size + 1 + 1, 1, none⟩ = false := by rw [H1.out.frule' _ _ (by simp)]; go_simp
  go_wp2_with fail
  refine bodyPost_ret (v := .agg #[.int .i64 (x.tdiv 2 + u.tdiv 2), .int .i64 (y.tdiv 2 + v.tdiv 2)]) (by simp [results, Try.results22, go_sem, q0, q1]) rfl ?_
  refine ⟨rfl, ?_⟩
  exact Below.new' (((New.below' ((((New.alloc w _).alloc' _).alloc' _).trans' H1.out)).setCell (p := ⟨w.heap.size + 1 + 1, 0, none⟩) (by simp <;> omega) (.int .i64 (x.tdiv 2 + u.tdiv 2))).setCell (p := ⟨w.heap.size + 1 + 1, 1, none⟩) (by simp <;> omega) (.int .i64 (y.tdiv 2 + v.tdiv 2)))

set_option maxHeartbeats 400000 in
theorem halved_any (x y : Int) (w : World) (h1 : Cd x) (h2 : Cd y) : Calls Try.prog 23 #[.agg #[.int .i64 x, .int .i64 y]] w fun e w' => e = .returned (.agg #[.int .i64 (x.tdiv 2), .int .i64 (y.tdiv 2)]) ∧ Hid (New w w') := by
  have t1 := tdiv2 h1
  have t2 := tdiv2 h2
  have hx1 := h1.1
  have hx2 := h1.2
  have hy1 := h2.1
  have hy2 := h2.2
  go_enter Try.func23, Try.ntmps23
  go_wp2_with fail
  refine (at_any (x.tdiv 2) (y.tdiv 2) _).mono ?_
  rintro e w1 ⟨rfl, H1⟩
  have q0 : w1.cell? ⟨w.heap.size + 1, 0, none⟩ = some (.int .i64 0) := by rw [H1.out.rule _ _ (by simp)]; go_simp
  have q1 : w1.cell? ⟨w.heap.size + 1, 1, none⟩ = some (.int .i64 0) := by rw [H1.out.rule _ _ (by simp)]; go_simp
  have f0 : w1.frozen? ⟨w.heap.size + 1, 0, none⟩ = false := by rw [H1.out.frule' _ _ (by simp)]; go_simp
  have f1 : w1.frozen? ⟨w.heap.size + 1, 1, none⟩ = false := by rw [H1.out.frule' _ _ (by simp)]; go_simp
  go_wp2_with fail
  refine bodyPost_ret (v := .agg #[.int .i64 (x.tdiv 2), .int .i64 (y.tdiv 2)]) (by simp [results, Try.results23, go_sem, q0, q1]) rfl ?_
  refine ⟨rfl, ?_⟩
  exact Below.new' (((New.below' (((New.alloc w _).alloc' _).trans' H1.out)).setCell (p := ⟨w.heap.size + 1, 0, none⟩) (by simp <;> omega) (.int .i64 (x.tdiv 2))).setCell (p := ⟨w.heap.size + 1, 1, none⟩) (by simp <;> omega) (.int .i64 (y.tdiv 2)))

set_option maxHeartbeats 800000 in
theorem kside_any (ax ay bx by' cx cy : Int) (w : World) (hok : okB [(ax, ay), (bx, by'), (cx, cy)] = true) :
    Calls Try.prog 18 #[.agg #[.int .i64 ax, .int .i64 ay], .agg #[.int .i64 bx, .int .i64 by'], .agg #[.int .i64 cx, .int .i64 cy]] w fun e w' =>
      e = .returned (.int .i64 (sgn (det ax ay bx by' cx cy))) ∧ Hid (New w w') := by
  have HO : Hid (okB [(ax, ay), (bx, by'), (cx, cy)] = true) := hok
  clear hok
  go_enter Try.func18, Try.ntmps18
  go_wp2_with fail
  refine (side_ok ax ay bx by' cx cy _ HO.out).mono ?_
  rintro e w1 ⟨rfl, H1⟩
  go_wp2_with fail
  go_ret
  exact ⟨rfl, (((New.alloc _ _).alloc' _).alloc' _).trans' H1.out⟩

set_option maxHeartbeats 800000 in
theorem kcircle_any (ax ay bx by' cx cy dx dy : Int) (w : World) (hok : okB [(ax, ay), (bx, by'), (cx, cy), (dx, dy)] = true) :
    Calls Try.prog 19 #[.agg #[.int .i64 ax, .int .i64 ay], .agg #[.int .i64 bx, .int .i64 by'], .agg #[.int .i64 cx, .int .i64 cy], .agg #[.int .i64 dx, .int .i64 dy]] w fun e w' =>
      e = .returned (.int .i64 (sgn (cdet ax ay bx by' cx cy dx dy))) ∧ Hid (New w w') := by
  have HO : Hid (okB [(ax, ay), (bx, by'), (cx, cy), (dx, dy)] = true) := hok
  clear hok
  go_enter Try.func19, Try.ntmps19
  go_wp2_with fail
  refine (circle_ok ax ay bx by' cx cy dx dy _ HO.out).mono ?_
  rintro e w1 ⟨rfl, H1⟩
  go_wp2_with fail
  go_ret
  exact ⟨rfl, ((((New.alloc _ _).alloc' _).alloc' _).alloc' _).trans' H1.out⟩

end Go.Proofs.Ytgeoffpcmkofkaa
/- The walk of plumbkeep's 'sure'. -/
namespace Go.Proofs.Ytgeoffpcmkofkaa
open Go.RowKit Fl
set_option maxRecDepth 100000

theorem sure_1 (w : World) : Calls Try.prog 11 #[.agg #[.int .i64 0, .int .i64 0], .agg #[.int .i64 9007199254740992, .int .i64 9007199254740991], .agg #[.int .i64 9007199254740991, .int .i64 9007199254740990]] w fun e w' => e = .returned (.tuple #[.int .i64 (-1), .int .i64 0]) ∧ Hid (New w w') :=
  side_ok 0 0 9007199254740992 9007199254740991 9007199254740991 9007199254740990 w (by decide)
theorem sure_2 (w : World) : Calls Try.prog 11 #[.agg #[.int .i64 0, .int .i64 0], .agg #[.int .i64 4, .int .i64 0], .agg #[.int .i64 2, .int .i64 3]] w fun e w' => e = .returned (.tuple #[.int .i64 1, .int .i64 0]) ∧ Hid (New w w') :=
  side_ok 0 0 4 0 2 3 w (by decide)
theorem sure_3 (w : World) : Calls Try.prog 14 #[.agg #[.int .i64 (-9007199254740992), .int .i64 0], .agg #[.int .i64 9007199254740992, .int .i64 0], .agg #[.int .i64 0, .int .i64 9007199254740992], .agg #[.int .i64 1, .int .i64 (-9007199254740992)]] w fun e w' => e = .returned (.tuple #[.int .i64 (-1), .int .i64 0]) ∧ Hid (New w w') :=
  circle_ok (-9007199254740992) 0 9007199254740992 0 0 9007199254740992 1 (-9007199254740992) w (by decide)
theorem sure_4 (w : World) : Calls Try.prog 14 #[.agg #[.int .i64 0, .int .i64 0], .agg #[.int .i64 4, .int .i64 0], .agg #[.int .i64 0, .int .i64 4], .agg #[.int .i64 1, .int .i64 1]] w fun e w' => e = .returned (.tuple #[.int .i64 1, .int .i64 0]) ∧ Hid (New w w') :=
  circle_ok 0 0 4 0 0 4 1 1 w (by decide)
theorem sure_5 (w : World) : Calls Try.prog 14 #[.agg #[.int .i64 (-9007199254740992), .int .i64 0], .agg #[.int .i64 9007199254740992, .int .i64 0], .agg #[.int .i64 0, .int .i64 9007199254740992], .agg #[.int .i64 0, .int .i64 (-9007199254740992)]] w fun e w' => e = .returned (.tuple #[.int .i64 0, .int .i64 0]) ∧ Hid (New w w') :=
  circle_ok (-9007199254740992) 0 9007199254740992 0 0 9007199254740992 0 (-9007199254740992) w (by decide)

set_option maxHeartbeats 1600000 in
theorem sure_any (w : World) : Calls Try.prog 16 #[] w fun e w' => e = .returned (.bool true) ∧ Hid (New w w') := by
  have HN : Hid (New w w) := New.refl w
  go_enter Try.func16, Try.ntmps16
  go_wp2_with fail
  refine (at_any 0 0 _).mono ?_
  rintro e w1 ⟨rfl, H1⟩
  replace HN : Hid (New w w1) := HN.out.trans' H1.out
  clear H1
  go_wp2_with fail
  refine (at_any 9007199254740992 9007199254740991 _).mono ?_
  rintro e w1 ⟨rfl, H1⟩
  replace HN : Hid (New w w1) := HN.out.trans' H1.out
  clear H1
  go_wp2_with fail
  refine (at_any 9007199254740991 9007199254740990 _).mono ?_
  rintro e w1 ⟨rfl, H1⟩
  replace HN : Hid (New w w1) := HN.out.trans' H1.out
  clear H1
  go_wp2_with fail
  refine (sure_1 _).mono ?_
  rintro e w1 ⟨rfl, H1⟩
  replace HN : Hid (New w w1) := HN.out.trans' H1.out
  clear H1
  go_wp2_with fail
  refine (at_any 0 0 _).mono ?_
  rintro e w1 ⟨rfl, H1⟩
  replace HN : Hid (New w w1) := HN.out.trans' H1.out
  clear H1
  go_wp2_with fail
  refine (at_any 4 0 _).mono ?_
  rintro e w1 ⟨rfl, H1⟩
  replace HN : Hid (New w w1) := HN.out.trans' H1.out
  clear H1
  go_wp2_with fail
  refine (at_any 2 3 _).mono ?_
  rintro e w1 ⟨rfl, H1⟩
  replace HN : Hid (New w w1) := HN.out.trans' H1.out
  clear H1
  go_wp2_with fail
  refine (sure_2 _).mono ?_
  rintro e w1 ⟨rfl, H1⟩
  replace HN : Hid (New w w1) := HN.out.trans' H1.out
  clear H1
  go_wp2_with fail
  refine (at_any (-9007199254740992) 0 _).mono ?_
  rintro e w1 ⟨rfl, H1⟩
  replace HN : Hid (New w w1) := HN.out.trans' H1.out
  clear H1
  go_wp2_with fail
  refine (at_any 9007199254740992 0 _).mono ?_
  rintro e w1 ⟨rfl, H1⟩
  replace HN : Hid (New w w1) := HN.out.trans' H1.out
  clear H1
  go_wp2_with fail
  refine (at_any 0 9007199254740992 _).mono ?_
  rintro e w1 ⟨rfl, H1⟩
  replace HN : Hid (New w w1) := HN.out.trans' H1.out
  clear H1
  go_wp2_with fail
  refine (at_any 1 (-9007199254740992) _).mono ?_
  rintro e w1 ⟨rfl, H1⟩
  replace HN : Hid (New w w1) := HN.out.trans' H1.out
  clear H1
  go_wp2_with fail
  refine (sure_3 _).mono ?_
  rintro e w1 ⟨rfl, H1⟩
  replace HN : Hid (New w w1) := HN.out.trans' H1.out
  clear H1
  go_wp2_with fail
  refine (at_any 0 0 _).mono ?_
  rintro e w1 ⟨rfl, H1⟩
  replace HN : Hid (New w w1) := HN.out.trans' H1.out
  clear H1
  go_wp2_with fail
  refine (at_any 4 0 _).mono ?_
  rintro e w1 ⟨rfl, H1⟩
  replace HN : Hid (New w w1) := HN.out.trans' H1.out
  clear H1
  go_wp2_with fail
  refine (at_any 0 4 _).mono ?_
  rintro e w1 ⟨rfl, H1⟩
  replace HN : Hid (New w w1) := HN.out.trans' H1.out
  clear H1
  go_wp2_with fail
  refine (at_any 1 1 _).mono ?_
  rintro e w1 ⟨rfl, H1⟩
  replace HN : Hid (New w w1) := HN.out.trans' H1.out
  clear H1
  go_wp2_with fail
  refine (sure_4 _).mono ?_
  rintro e w1 ⟨rfl, H1⟩
  replace HN : Hid (New w w1) := HN.out.trans' H1.out
  clear H1
  go_wp2_with fail
  refine (at_any (-9007199254740992) 0 _).mono ?_
  rintro e w1 ⟨rfl, H1⟩
  replace HN : Hid (New w w1) := HN.out.trans' H1.out
  clear H1
  go_wp2_with fail
  refine (at_any 9007199254740992 0 _).mono ?_
  rintro e w1 ⟨rfl, H1⟩
  replace HN : Hid (New w w1) := HN.out.trans' H1.out
  clear H1
  go_wp2_with fail
  refine (at_any 0 9007199254740992 _).mono ?_
  rintro e w1 ⟨rfl, H1⟩
  replace HN : Hid (New w w1) := HN.out.trans' H1.out
  clear H1
  go_wp2_with fail
  refine (at_any 0 (-9007199254740992) _).mono ?_
  rintro e w1 ⟨rfl, H1⟩
  replace HN : Hid (New w w1) := HN.out.trans' H1.out
  clear H1
  go_wp2_with fail
  refine (sure_5 _).mono ?_
  rintro e w1 ⟨rfl, H1⟩
  replace HN : Hid (New w w1) := HN.out.trans' H1.out
  clear H1
  go_wp2_with fail
  refine (near_yes (-1) _).mono ?_
  rintro e w1 ⟨rfl, rfl⟩
  go_wp2_with fail
  refine (near_yes 1 _).mono ?_
  rintro e w1 ⟨rfl, rfl⟩
  go_wp2_with fail
  refine (near_yes (-1) _).mono ?_
  rintro e w1 ⟨rfl, rfl⟩
  go_wp2_with fail
  refine (near_yes 1 _).mono ?_
  rintro e w1 ⟨rfl, rfl⟩
  go_wp2_with fail
  refine (near_yes 0 _).mono ?_
  rintro e w1 ⟨rfl, rfl⟩
  go_wp2_with fail
  go_ret
  exact ⟨rfl, HN.out⟩

end Go.Proofs.Ytgeoffpcmkofkaa
