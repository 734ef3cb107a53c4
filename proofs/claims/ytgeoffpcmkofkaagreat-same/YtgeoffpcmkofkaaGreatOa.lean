/- The orders by which is sorted: of points, of directed sides, of triangles; worlds that have but grown. -/
import Derived.Test.YtgeoffpcmkofkaaGreatNb
import Derived.Test.YtgeoffpcmkofkaaGreatYa
import Derived.Sort.Grow
namespace Go.Proofs.YtgeoffpcmkofkaaGreat
open Go.RowKit Fl Go.Sort
set_option maxRecDepth 100000
attribute [local go_sem ↓] Go.wp_at_zero Go.wp_at_succ

/-- Nothing but draws and new blocks. -/
def Gr (w w' : World) : Prop := ∃ q os, w' = grow (w.drewN q) os
theorem Gr.refl (w : World) : Gr w w := ⟨0, #[], by simp [World.drewN]⟩
theorem Gr.al {w w' : World} (h : Gr w w') (o : Obj) : Gr w (w'.alloc o) := by
  obtain ⟨q, os, rfl⟩ := h
  exact ⟨q, os.push o, by simp [grow, World.alloc]⟩
theorem Gr.dr {w w' : World} (h : Gr w w') : Gr w w'.drew := by
  obtain ⟨q, os, rfl⟩ := h
  exact ⟨q + 1, os, by simp [grow, World.drewN, World.drew]; omega⟩
theorem Gr.trans {w w' w'' : World} (h : Gr w w') (h' : Gr w' w'') : Gr w w'' := by
  obtain ⟨q, os, rfl⟩ := h
  obtain ⟨q', os', rfl⟩ := h'
  exact ⟨q + q', os ++ os', by simp [grow, World.drewN, Array.append_assoc]; omega⟩
theorem Gr.new {w w' : World} (h : Gr w w') : New w w' := by
  obtain ⟨q, os, rfl⟩ := h
  exact ⟨rfl, rfl, rfl, by simp [grow, World.drewN], fun k hk _ => by simp [grow, World.drewN, Array.getElem?_append_left hk]⟩

set_option maxHeartbeats 800000 in
theorem compare_gr (ax ay bx by' : Int) (w : World) :
    Calls Tryz.prog 42 #[.agg #[.int .i64 ax, .int .i64 ay], .agg #[.int .i64 bx, .int .i64 by']] w fun e w' => e = .returned (.int .i64 (cmpP (ax, ay) (bx, by'))) ∧ Hid (Gr w w') := by
  go_enter Tryz.func42, Tryz.ntmps42
  go_wp2_with fail
  obtain ⟨W, hW⟩ : ∃ W, W = (w.alloc (.cells #[.int .i64 ax, .int .i64 ay] 36)).alloc (.cells #[.int .i64 bx, .int .i64 by'] 36) := ⟨_, rfl⟩
  have HW : Hid (Gr w W ∧ W.heap.size = w.heap.size + 2) := by rw [hW]; exact ⟨((Gr.refl w).al _).al _, by simp⟩
  have a0 : W.cell? ⟨w.heap.size, 0, none⟩ = some (.int .i64 ax) := by rw [hW]; go_simp
  have a1 : W.cell? ⟨w.heap.size, 1, none⟩ = some (.int .i64 ay) := by rw [hW]; go_simp
  have b0 : W.cell? ⟨w.heap.size + 1, 0, none⟩ = some (.int .i64 bx) := by rw [hW]; go_simp
  have b1 : W.cell? ⟨w.heap.size + 1, 1, none⟩ = some (.int .i64 by') := by rw [hW]; go_simp
  rw [← hW]
  clear hW
  have F1 : Hid (0 ≤ 0) := Nat.le_refl _
  go_region_held3 (fun w' => w'.cell? ⟨w.heap.size, 0, none⟩ = some (.int .i64 ax) ∧ w'.cell? ⟨w.heap.size, 1, none⟩ = some (.int .i64 ay) ∧ w'.cell? ⟨w.heap.size + 1, 0, none⟩ = some (.int .i64 bx) ∧ w'.cell? ⟨w.heap.size + 1, 1, none⟩ = some (.int .i64 by'))
    (first
      | go_keep)
    (first
      | (go_at_call 67; clear F1; refine (cmpInt_any ax bx _).mono ?_; rintro e w1 ⟨rfl, rfl⟩)
      | (go_at_call 67; refine (cmpInt_any ay by' _).mono ?_; rintro e w1 ⟨rfl, rfl⟩)
      | (go_at_call 66; refine (or2 (sgn (ax - bx)) (sgn (ay - by')) W.heap.size _ (by go_simp) (by go_simp)).mono ?_; rintro e w1 ⟨rfl, rfl⟩))
  go_wp2_with fail
  go_ret
  exact ⟨rfl, (HW.out.1.al _).dr⟩

/-- The order of directed sides. -/
def cmpE (e f : Ed) : Int := orI (cmpP e.1 f.1) (cmpP e.2 f.2)

set_option maxHeartbeats 1600000 in
theorem compareEdges_gr (e f : Ed) (w : World) :
    Calls Tryz.prog 46 #[.agg #[.int .i64 e.1.1, .int .i64 e.1.2, .int .i64 e.2.1, .int .i64 e.2.2], .agg #[.int .i64 f.1.1, .int .i64 f.1.2, .int .i64 f.2.1, .int .i64 f.2.2]] w fun x w' => x = .returned (.int .i64 (cmpE e f)) ∧ Hid (Gr w w') := by
  go_enter Tryz.func46, Tryz.ntmps46
  go_wp2_with fail
  obtain ⟨W, hW⟩ : ∃ W, W = (w.alloc (.cells #[.int .i64 e.1.1, .int .i64 e.1.2, .int .i64 e.2.1, .int .i64 e.2.2] 65)).alloc (.cells #[.int .i64 f.1.1, .int .i64 f.1.2, .int .i64 f.2.1, .int .i64 f.2.2] 65) := ⟨_, rfl⟩
  have HW : Hid (Gr w W ∧ BoxE W w.heap.size e ∧ BoxE W (w.heap.size + 1) f) := by rw [hW]; exact ⟨((Gr.refl w).al _).al _, ⟨by go_simp, by go_simp, by go_simp, by go_simp⟩, ⟨by go_simp, by go_simp, by go_simp, by go_simp⟩⟩
  rw [← hW]
  clear hW
  have F1 : Hid (0 ≤ 0) := Nat.le_refl _
  have C : Hid (Gr W W.drew) := (Gr.refl W).dr
  have KS : Hid (∀ V, Gr W V → V.cell? ⟨w.heap.size, 0, none⟩ = some (.int .i64 e.1.1) ∧ V.cell? ⟨w.heap.size, 1, none⟩ = some (.int .i64 e.1.2) ∧ V.cell? ⟨w.heap.size, 2, none⟩ = some (.int .i64 e.2.1) ∧ V.cell? ⟨w.heap.size, 3, none⟩ = some (.int .i64 e.2.2) ∧ V.cell? ⟨w.heap.size + 1, 0, none⟩ = some (.int .i64 f.1.1) ∧ V.cell? ⟨w.heap.size + 1, 1, none⟩ = some (.int .i64 f.1.2) ∧ V.cell? ⟨w.heap.size + 1, 2, none⟩ = some (.int .i64 f.2.1) ∧ V.cell? ⟨w.heap.size + 1, 3, none⟩ = some (.int .i64 f.2.2)) := by
    intro V hV
    have h1 := HW.out.2.1.new hV.new
    have h2 := HW.out.2.2.new hV.new
    exact ⟨h1.c0, h1.c1, h1.c2, h1.c3, h2.c0, h2.c1, h2.c2, h2.c3⟩
  go_region_held3 (fun V => V.cell? ⟨w.heap.size, 0, none⟩ = some (.int .i64 e.1.1) ∧ V.cell? ⟨w.heap.size, 1, none⟩ = some (.int .i64 e.1.2) ∧ V.cell? ⟨w.heap.size, 2, none⟩ = some (.int .i64 e.2.1) ∧ V.cell? ⟨w.heap.size, 3, none⟩ = some (.int .i64 e.2.2) ∧ V.cell? ⟨w.heap.size + 1, 0, none⟩ = some (.int .i64 f.1.1) ∧ V.cell? ⟨w.heap.size + 1, 1, none⟩ = some (.int .i64 f.1.2) ∧ V.cell? ⟨w.heap.size + 1, 2, none⟩ = some (.int .i64 f.2.1) ∧ V.cell? ⟨w.heap.size + 1, 3, none⟩ = some (.int .i64 f.2.2))
    (first | exact KS.out _ C.out | exact KS.out _ (C.out.al _))
    (first
      | (go_at_call 42; clear F1; refine (compare_gr e.1.1 e.1.2 f.1.1 f.1.2 _).mono ?_; rintro x w1 ⟨rfl, H1⟩; replace C : Hid (Gr W w1) := C.out.trans H1.out; clear H1)
      | (go_at_call 42; refine (compare_gr e.2.1 e.2.2 f.2.1 f.2.2 _).mono ?_; rintro x w2 ⟨rfl, H1⟩; replace C : Hid (Gr W w2) := C.out.trans H1.out; clear H1)
      | (go_at_call 66; refine (or2 (cmpP e.1 f.1) (cmpP e.2 f.2) _ _ (by go_simp) (by go_simp)).mono ?_; rintro x w3 ⟨rfl, rfl⟩))
  go_wp2_with fail
  go_ret
  exact ⟨rfl, HW.out.1.trans (C.out.al _)⟩

set_option maxHeartbeats 800000 in
theorem or3 (s t u : Int) (g : Nat) (V : World) (c0 : V.cell? ⟨g, 0, none⟩ = some (.int .i64 s)) (c1 : V.cell? ⟨g, 1, none⟩ = some (.int .i64 t)) (c2 : V.cell? ⟨g, 2, none⟩ = some (.int .i64 u)) :
    Calls Tryz.prog 66 #[.slice (some ⟨g, 0, none⟩) 3 3] V fun e w' => e = .returned (.int .i64 (orI s (orI t u))) ∧ V = w' := by
  have HS : Hid ((s = 0 → orI s (orI t u) = orI t u) ∧ (s ≠ 0 → orI s (orI t u) = s) ∧ (t = 0 → orI t u = u) ∧ (t ≠ 0 → orI t u = t)) := ⟨fun h => by rw [orI, if_pos h], fun h => by rw [orI, if_neg h], fun h => by rw [orI, if_pos h], fun h => by rw [orI, if_neg h]⟩
  generalize orI t u = tu at HS ⊢
  generalize orI s tu = stu at HS ⊢
  go_enter Tryz.func66, Tryz.ntmps66
  go_wp2_with fail
  go_loop [8] (fun i => ∃ k : Nat, i = .int .i64 k ∧ k ≤ 3 ∧ Hid ((1 ≤ k → s = 0) ∧ (2 ≤ k → t = 0) ∧ (3 ≤ k → u = 0)))
    (fun i => 3 - (intOf i).toNat)
  case atStart => exact ⟨0, rfl, Nat.zero_le _, fun h => by omega, fun h => by omega, fun h => by omega⟩
  case round =>
    obtain ⟨k, rfl, hle, H⟩ := hrel
    rcases (show k = 0 ∨ k = 1 ∨ k = 2 ∨ k = 3 by omega) with rfl | rfl | rfl | rfl
    · by_cases hs : s = 0
      · have HS0 : Hid (s = 0) := hs
        go_wp2_with fail
        go_round
        case rel => exact ⟨1, rfl, by omega, fun _ => HS0.out, fun h => by omega, fun h => by omega⟩
        case measure => simp [intOf]
      · have HE : Hid (stu = s) := HS.out.2.1 hs
        go_wp2_with fail
        go_ret
        exact ⟨by rw [HE.out]; rfl, rfl⟩
    · by_cases hs : t = 0
      · have HS0 : Hid (t = 0) := hs
        go_wp2_with fail
        go_round
        case rel => exact ⟨2, rfl, by omega, fun _ => H.out.1 (by omega), fun _ => HS0.out, fun h => by omega⟩
        case measure => simp [intOf]
      · have HE : Hid (stu = t) := by rw [Hid, HS.out.1 (H.out.1 (by omega)), HS.out.2.2.2 hs]
        go_wp2_with fail
        go_ret
        exact ⟨by rw [HE.out]; rfl, rfl⟩
    · have HT : Hid (stu = u) := by rw [Hid, HS.out.1 (H.out.1 (by omega)), HS.out.2.2.1 (H.out.2.1 (by omega))]
      by_cases hs : u = 0
      · have HS0 : Hid (u = 0) := hs
        go_wp2_with fail
        go_round
        case rel => exact ⟨3, rfl, by omega, fun _ => H.out.1 (by omega), fun _ => H.out.2.1 (by omega), fun _ => HS0.out⟩
        case measure => simp [intOf]
      · go_wp2_with fail
        go_ret
        exact ⟨by rw [HT.out]; rfl, rfl⟩
    · have HE : Hid (stu = 0) := by rw [Hid, HS.out.1 (H.out.1 (by omega)), HS.out.2.2.1 (H.out.2.1 (by omega)), H.out.2.2 (by omega)]
      go_wp2_with fail
      go_ret
      exact ⟨by rw [HE.out]; rfl, rfl⟩

abbrev Tri3 := Int × Int × Int
/-- The order of triangles. -/
def cmpT (s t : Tri3) : Int := orI (sgn (s.1 - t.1)) (orI (sgn (s.2.1 - t.2.1)) (sgn (s.2.2 - t.2.2)))

set_option maxHeartbeats 1600000 in
theorem compareTriangles_gr (s t : Tri3) (w : World) :
    Calls Tryz.prog 50 #[.agg #[.int .i64 s.1, .int .i64 s.2.1, .int .i64 s.2.2], .agg #[.int .i64 t.1, .int .i64 t.2.1, .int .i64 t.2.2]] w fun x w' => x = .returned (.int .i64 (cmpT s t)) ∧ Hid (Gr w w') := by
  go_enter Tryz.func50, Tryz.ntmps50
  go_wp2_with fail
  obtain ⟨W, hW⟩ : ∃ W, W = (w.alloc (.cells #[.int .i64 s.1, .int .i64 s.2.1, .int .i64 s.2.2] 33)).alloc (.cells #[.int .i64 t.1, .int .i64 t.2.1, .int .i64 t.2.2] 33) := ⟨_, rfl⟩
  have HW : Hid (Gr w W) := by rw [hW]; exact ((Gr.refl w).al _).al _
  have a0 : W.cell? ⟨w.heap.size, 0, none⟩ = some (.int .i64 s.1) := by rw [hW]; go_simp
  have a1 : W.cell? ⟨w.heap.size, 1, none⟩ = some (.int .i64 s.2.1) := by rw [hW]; go_simp
  have a2 : W.cell? ⟨w.heap.size, 2, none⟩ = some (.int .i64 s.2.2) := by rw [hW]; go_simp
  have b0 : W.cell? ⟨w.heap.size + 1, 0, none⟩ = some (.int .i64 t.1) := by rw [hW]; go_simp
  have b1 : W.cell? ⟨w.heap.size + 1, 1, none⟩ = some (.int .i64 t.2.1) := by rw [hW]; go_simp
  have b2 : W.cell? ⟨w.heap.size + 1, 2, none⟩ = some (.int .i64 t.2.2) := by rw [hW]; go_simp
  rw [← hW]
  clear hW
  have F1 : Hid (0 ≤ 0) := Nat.le_refl _
  have F2 : Hid (0 ≤ 0) := Nat.le_refl _
  go_region_held3 (fun w' => w'.cell? ⟨w.heap.size, 0, none⟩ = some (.int .i64 s.1) ∧ w'.cell? ⟨w.heap.size, 1, none⟩ = some (.int .i64 s.2.1) ∧ w'.cell? ⟨w.heap.size, 2, none⟩ = some (.int .i64 s.2.2) ∧ w'.cell? ⟨w.heap.size + 1, 0, none⟩ = some (.int .i64 t.1) ∧ w'.cell? ⟨w.heap.size + 1, 1, none⟩ = some (.int .i64 t.2.1) ∧ w'.cell? ⟨w.heap.size + 1, 2, none⟩ = some (.int .i64 t.2.2))
    (first
      | go_keep)
    (first
      | (go_at_call 67; clear F1; refine (cmpInt_any s.1 t.1 _).mono ?_; rintro e w1 ⟨rfl, rfl⟩)
      | (go_at_call 67; clear F2; refine (cmpInt_any s.2.1 t.2.1 _).mono ?_; rintro e w1 ⟨rfl, rfl⟩)
      | (go_at_call 67; refine (cmpInt_any s.2.2 t.2.2 _).mono ?_; rintro e w1 ⟨rfl, rfl⟩)
      | (go_at_call 66; refine (or3 (sgn (s.1 - t.1)) (sgn (s.2.1 - t.2.1)) (sgn (s.2.2 - t.2.2)) W.heap.size _ (by go_simp) (by go_simp) (by go_simp)).mono ?_; rintro e w1 ⟨rfl, rfl⟩))
  go_wp2_with fail
  go_ret
  exact ⟨rfl, (HW.out.al _).dr⟩

end Go.Proofs.YtgeoffpcmkofkaaGreat
