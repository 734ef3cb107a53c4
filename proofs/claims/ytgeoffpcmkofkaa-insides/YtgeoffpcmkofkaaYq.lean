/- The walk of the law 'Insides'. -/
import Derived.Test.YtgeoffpcmkofkaaYn
import Derived.Test.YtgeoffpcmkofkaaYp
namespace Go.Proofs.Ytgeoffpcmkofkaa
open Go.RowKit Fl
set_option maxRecDepth 100000

set_option maxHeartbeats 3200000 in
theorem insides_some (a : Addr) (cap : Nat) (l : Pts) (px py : Int) (w : World) (h : PolyAt w (some a) l) (hs : cap ≤ 10000000000000) (hc : l.length ≤ cap) :
    Calls Try.prog 7 #[.slice (some a) l.length cap, .agg #[.int .i64 px, .int .i64 py]] w fun e w' => e = .returned (.bool true) ∧ Hid (New w w') := by
  have HP : Hid (PolyAt w (some a) l) := h
  clear h
  go_enter Try.func7, Try.ntmps7
  go_wp2_with fail
  refine (lent_some a cap l _ (HP.out.kept (New.alloc _ _)) hs hc).mono ?_
  rintro e w1 ⟨rfl, H1⟩
  have HN1 : Hid (New w w1) := (New.alloc _ _).trans' H1.out.new
  have p0 : w1.cell? ⟨w.heap.size, 0, none⟩ = some (.int .i64 px) := H1.out.new.kept (by go_simp)
  have p1 : w1.cell? ⟨w.heap.size, 1, none⟩ = some (.int .i64 py) := H1.out.new.kept (by go_simp)
  have HB : Hid (PtsAt w1 (w.heap.size + 1) 0 (l ++ [(0, 0)]) ∧ w.heap.size + 1 < w1.heap.size) := ⟨by have := H1.out.pts; simpa using this, by have := H1.out.lt; simpa using this⟩
  have HI : Hid (PolyAt w1 (some ⟨w.heap.size + 1, 0, none⟩) l) := fun h0 => ⟨_, _, rfl, fun i hi => by
    have := HB.out.1 i (by simp; omega)
    rwa [List.getElem_append_left hi] at this, HB.out.2⟩
  clear H1
  go_wp2_with fail
  refine (within_any (some ⟨w.heap.size + 1, 0, none⟩) (l.length + 1) l px py _ HI.out (by omega) (by omega)).mono ?_
  rintro e w2 ⟨rfl, H2⟩
  have HN2 : Hid (New w w2) := HN1.out.trans' H2.out
  have HB2 : Hid (PtsAt w2 (w.heap.size + 1) 0 (l ++ [(0, 0)])) := HB.out.1.kept HB.out.2 H2.out
  have q0 : w2.cell? ⟨w.heap.size, 0, none⟩ = some (.int .i64 px) := H2.out.kept p0
  have q1 : w2.cell? ⟨w.heap.size, 1, none⟩ = some (.int .i64 py) := H2.out.kept p1
  clear p0 p1 H2 HN1 HB HI
  go_wp2_with fail
  refine (back_any (w.heap.size + 1) (some a) cap l _ HB2.out (HP.out.kept HN2.out) hs hc).mono ?_
  rintro e w3 ⟨rfl, H3⟩
  have HN3 : Hid (New w w3) := HN2.out.trans' H3.out
  have r0 : w3.cell? ⟨w.heap.size, 0, none⟩ = some (.int .i64 px) := H3.out.kept q0
  have r1 : w3.cell? ⟨w.heap.size, 1, none⟩ = some (.int .i64 py) := H3.out.kept q1
  clear q0 q1 H3 HN2 HB2
  by_cases h40 : 40 < l.length
  · have hE : wErr l (px, py) = 2 := by
      have : errL l = 2 := by rw [errL, if_pos h40]
      rw [wErr, if_neg (by omega), this]
    have hN : wNum l (px, py) = 0 := by rw [wNum, hE]; rfl
    go_wp2_with fail
    go_ret
    exact ⟨rfl, HN3⟩
  · have HE : Hid (errL l = okE l) := by rw [Hid, errL, if_neg h40]
    go_wp2_with fail
    refine (bad_poly (some a) cap l _ (HP.out.kept HN3.out) hc (by omega)).mono ?_
    rintro e w4 ⟨rfl, rfl⟩
    go_wp2_with fail
    refine (bad1 px py _ _ (by simp)).mono ?_
    rintro e w5 ⟨rfl, H5⟩
    have HN5 : Hid (New w w5) := HN3.out.trans' H5.out
    have s0 : w5.cell? ⟨w.heap.size, 0, none⟩ = some (.int .i64 px) := H5.out.kept r0
    have s1 : w5.cell? ⟨w.heap.size, 1, none⟩ = some (.int .i64 py) := H5.out.kept r1
    clear r0 r1 H5 HN3
    cases hx : okB l with
    | false =>
      have hE : wErr l (px, py) = 1 := by
        have : errL l = 1 := by rw [HE.out, okE, hx]; rfl
        rw [wErr, if_neg (by omega), this]
      have hN : wNum l (px, py) = 0 := by rw [wNum, hE]; rfl
      clear hx
      go_wp2_with fail
      go_ret
      exact ⟨rfl, HN5⟩
    | true =>
      have HX : Hid (okB l = true) := hx
      have h0 : errL l = 0 := by rw [HE.out, okE, hx]; rfl
      clear hx
      cases hy : okB [(px, py)] with
      | false =>
        have hE : wErr l (px, py) = 1 := by rw [wErr, if_pos h0, okE, hy]; rfl
        have hN : wNum l (px, py) = 0 := by rw [wNum, hE]; rfl
        clear hy h0
        go_wp2_with fail
        go_ret
        exact ⟨rfl, HN5⟩
      | true =>
        have HY : Hid (CdP (px, py)) := okB_cd hy (p := (px, py)) (by simp)
        have hE : wErr l (px, py) = 0 := by rw [wErr, if_pos h0, okE, hy]; rfl
        have hN : wNum l (px, py) = withinN l (px, py) := by rw [wNum, if_pos hE]
        clear hy h0
        go_wp2_with fail
        refine (refWithin_any (some a) cap l px py _ (HP.out.kept HN5.out) (by omega) HX.out HY.out).mono ?_
        rintro e w6 ⟨rfl, H6⟩
        go_wp2_with fail
        go_ret
        exact ⟨rfl, HN5.out.trans' H6.out⟩

set_option maxHeartbeats 3200000 in
theorem insides_nil (px py : Int) (w : World) :
    Calls Try.prog 7 #[.slice none 0 0, .agg #[.int .i64 px, .int .i64 py]] w fun e w' => e = .returned (.bool true) ∧ Hid (New w w') := by
  have HP : Hid (∀ w : World, PolyAt w none []) := fun w h0 => by simp at h0
  go_enter Try.func7, Try.ntmps7
  go_wp2_with fail
  refine (lent_nil _).mono ?_
  rintro e w1 ⟨rfl, H1⟩
  have HN1 : Hid (New w w1) := (New.alloc _ _).trans' H1.out.new
  have p0 : w1.cell? ⟨w.heap.size, 0, none⟩ = some (.int .i64 px) := H1.out.new.kept (by go_simp)
  have p1 : w1.cell? ⟨w.heap.size, 1, none⟩ = some (.int .i64 py) := H1.out.new.kept (by go_simp)
  have HB : Hid (PtsAt w1 (w.heap.size + 1) 0 ([] ++ [(0, 0)]) ∧ w.heap.size + 1 < w1.heap.size) := ⟨by have := H1.out.pts; simpa using this, by have := H1.out.lt; simpa using this⟩
  clear H1
  go_wp2_with fail
  refine (within_any none 0 [] px py _ (HP.out _) (by simp) (by omega)).mono ?_
  rintro e w2 ⟨rfl, H2⟩
  have HN2 : Hid (New w w2) := HN1.out.trans' H2.out
  have HB2 : Hid (PtsAt w2 (w.heap.size + 1) 0 ([] ++ [(0, 0)])) := HB.out.1.kept HB.out.2 H2.out
  have q0 : w2.cell? ⟨w.heap.size, 0, none⟩ = some (.int .i64 px) := H2.out.kept p0
  have q1 : w2.cell? ⟨w.heap.size, 1, none⟩ = some (.int .i64 py) := H2.out.kept p1
  clear p0 p1 H2 HN1 HB
  go_wp2_with fail
  refine (back_any (w.heap.size + 1) none 0 [] _ HB2.out (HP.out _) (by omega) (by simp)).mono ?_
  rintro e w3 ⟨rfl, H3⟩
  have HN3 : Hid (New w w3) := HN2.out.trans' H3.out
  have r0 : w3.cell? ⟨w.heap.size, 0, none⟩ = some (.int .i64 px) := H3.out.kept q0
  have r1 : w3.cell? ⟨w.heap.size, 1, none⟩ = some (.int .i64 py) := H3.out.kept q1
  clear q0 q1 H3 HN2 HB2
  go_wp2_with fail
  refine (bad_poly none 0 [] _ (HP.out _) (by simp) (by omega)).mono ?_
  rintro e w4 ⟨rfl, rfl⟩
  go_wp2_with fail
  refine (bad1 px py _ _ (by simp)).mono ?_
  rintro e w5 ⟨rfl, H5⟩
  have HN5 : Hid (New w w5) := HN3.out.trans' H5.out
  have s0 : w5.cell? ⟨w.heap.size, 0, none⟩ = some (.int .i64 px) := H5.out.kept r0
  have s1 : w5.cell? ⟨w.heap.size, 1, none⟩ = some (.int .i64 py) := H5.out.kept r1
  clear r0 r1 H5 HN3
  have hb0 : okB [] = true := rfl
  cases hy : okB [(px, py)] with
  | false =>
    have hE : wErr [] (px, py) = 1 := by rw [wErr, if_pos (show errL [] = 0 from rfl), okE, hy]; rfl
    have hN : wNum [] (px, py) = 0 := by rw [wNum, hE]; rfl
    clear hy
    go_wp2_with fail
    go_ret
    exact ⟨rfl, HN5⟩
  | true =>
    have HY : Hid (CdP (px, py)) := okB_cd hy (p := (px, py)) (by simp)
    have hE : wErr [] (px, py) = 0 := by rw [wErr, if_pos (show errL [] = 0 from rfl), okE, hy]; rfl
    have hN : wNum [] (px, py) = withinN [] (px, py) := by rw [wNum, if_pos hE]
    clear hy
    go_wp2_with fail
    refine (refWithin_any none 0 [] px py _ (HP.out _) (by simp) rfl HY.out).mono ?_
    rintro e w6 ⟨rfl, H6⟩
    go_wp2_with fail
    go_ret
    exact ⟨rfl, HN5.out.trans' H6.out⟩

end Go.Proofs.Ytgeoffpcmkofkaa
