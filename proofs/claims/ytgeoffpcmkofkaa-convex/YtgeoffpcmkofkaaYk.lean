/- The walk of 'passesRight' of package inside. -/
import Derived.Test.YtgeoffpcmkofkaaYd
import Derived.Test.YtgeoffpcmkofkaaFo
import Derived.Deep.DeepCutAuto
namespace Go.Proofs.Ytgeoffpcmkofkaa
open Go.RowKit Fl
set_option maxRecDepth 100000
attribute [local go_sem ↓] Go.wp_at_zero Go.wp_at_succ

/-- Does the edge from u to v pass p on its right? -/
def lowP (u v : Pt) : Pt := if v.2 < u.2 then v else u
def highP (u v : Pt) : Pt := if v.2 < u.2 then u else v
def passB (u v p : Pt) : Bool := decide ((lowP u v).2 ≤ p.2) && decide (p.2 < (highP u v).2) && decide (0 < sgn (D (lowP u v) (highP u v) p))

/-- Two variables hold points. -/
structure LH (w wx : World) (b1 b2 : Nat) (ux uy vx vy px py : Int) : Prop where
  new : New w wx
  ge1 : w.heap.size ≤ b1
  ge2 : w.heap.size ≤ b2
  ne : b1 ≠ b2
  q1 : w.heap.size + 1 ≠ b1
  q2 : w.heap.size + 1 ≠ b2
  k1 : wx.heap[b1]? = some (.cells #[.int .i64 ux, .int .i64 uy] 23 (0, 0))
  k2 : wx.heap[b2]? = some (.cells #[.int .i64 vx, .int .i64 vy] 23 (0, 0))
  p0 : wx.cell? ⟨w.heap.size + 1, 0, none⟩ = some (.int .i64 px)
  p1 : wx.cell? ⟨w.heap.size + 1, 1, none⟩ = some (.int .i64 py)

theorem LH.next {w wx wy : World} {b1 b2 : Nat} {ux uy vx vy px py : Int} (h : LH w wx b1 b2 ux uy vx vy px py) (H : New wx wy) : LH w wy b1 b2 ux uy vx vy px py :=
  ⟨h.new.trans' H, h.ge1, h.ge2, h.ne, h.q1, h.q2, (H.block _ (Array.getElem?_eq_some_iff.1 h.k1).1 (by simp)).trans h.k1, (H.block _ (Array.getElem?_eq_some_iff.1 h.k2).1 (by simp)).trans h.k2, H.kept h.p0, H.kept h.p1⟩
theorem LH.swap {w wx : World} {b1 b2 : Nat} {ux uy vx vy px py : Int} (h : LH w wx b1 b2 ux uy vx vy px py) (h1 : w.heap.size + 1 ≠ b1) (h2 : w.heap.size + 1 ≠ b2) :
    LH w ((((wx.setCell ⟨b1, 0, none⟩ (.int .i64 vx)).setCell ⟨b1, 1, none⟩ (.int .i64 vy)).setCell ⟨b2, 0, none⟩ (.int .i64 ux)).setCell ⟨b2, 1, none⟩ (.int .i64 uy)) b1 b2 vx vy ux uy px py := by
  refine ⟨(((h.new.set h.ge1 _).set h.ge1 _).set h.ge2 _).set h.ge2 _, h.ge1, h.ge2, h.ne, h1, h2, ?_, ?_, ?_, ?_⟩
  · rw [heap_setCell_other _ ⟨b2, 1, none⟩ b1 _ h.ne, heap_setCell_other _ ⟨b2, 0, none⟩ b1 _ h.ne]
    exact pair_set1 (pair_set0 h.k1)
  · refine pair_set1 (pair_set0 (x := .int .i64 vx) (y := .int .i64 vy) ?_)
    rw [heap_setCell_other _ ⟨b1, 1, none⟩ b2 _ h.ne.symm, heap_setCell_other _ ⟨b1, 0, none⟩ b2 _ h.ne.symm]
    exact h.k2
  · rw [set_other h2, set_other h2, set_other h1, set_other h1]; exact h.p0
  · rw [set_other h2, set_other h2, set_other h1, set_other h1]; exact h.p1

theorem heap_at_end {W : World} {o : Obj} {n : Nat} (hn : n = W.heap.size) : (W.alloc o).heap[n]? = some o := by
  subst hn; exact _root_.Go.heap_alloc_new W o
theorem lh_mk1 (w : World) (o : Obj) (ux uy vx vy px py : Int) : LH w ((((w.alloc o).alloc (.cells #[.int .i64 px, .int .i64 py] 23)).alloc (.cells #[.int .i64 ux, .int .i64 uy] 23)).alloc (.cells #[.int .i64 vx, .int .i64 vy] 23)) (w.heap.size + 1 + 1) (w.heap.size + 1 + 1 + 1) ux uy vx vy px py :=
  ⟨(((New.alloc _ _).alloc' _).alloc' _).alloc' _, by omega, by omega, by omega, by omega, by omega, ((New.alloc _ _).block _ (by simp) (by simp)).trans (heap_at_end (by simp)), heap_at_end (by simp), by go_simp, by go_simp⟩
theorem lh_mk2 (w : World) (o : Obj) (ux uy vx vy px py : Int) : LH w ((((w.alloc o).alloc (.cells #[.int .i64 px, .int .i64 py] 23)).alloc (.cells #[.int .i64 vx, .int .i64 vy] 23)).alloc (.cells #[.int .i64 ux, .int .i64 uy] 23)) (w.heap.size + 1 + 1 + 1) (w.heap.size + 1 + 1) ux uy vx vy px py :=
  ⟨(((New.alloc _ _).alloc' _).alloc' _).alloc' _, by omega, by omega, by omega, by omega, by omega, heap_at_end (by simp), ((New.alloc _ _).block _ (by simp) (by simp)).trans (heap_at_end (by simp)), by go_simp, by go_simp⟩

set_option maxHeartbeats 1600000 in
theorem passes_any (ux uy vx vy px py : Int) (w : World) (hu : CdP (ux, uy)) (hv : CdP (vx, vy)) (hp : CdP (px, py)) :
    Calls Try.prog 67 #[.agg #[.int .i64 ux, .int .i64 uy, .int .i64 vx, .int .i64 vy], .agg #[.int .i64 px, .int .i64 py]] w fun e w' => e = .returned (.bool (passB (ux, uy) (vx, vy) (px, py))) ∧ Hid (New w w') := by
  have HC : Hid ((Cd ux ∧ Cd uy) ∧ (Cd vx ∧ Cd vy) ∧ (Cd px ∧ Cd py)) := ⟨hu, hv, hp⟩
  clear hu hv hp
  go_enter Try.func67, Try.ntmps67
  go_wp2_with fail
  go_cut [5, 6] from 7 to 10 (fun s5 s6 wx => ∃ b1 b2 : Nat, s5 = .pointer (some ⟨b1, 0, none⟩) ∧ s6 = .pointer (some ⟨b2, 0, none⟩) ∧ Hid (LH w wx b1 b2 ux uy vx vy px py))
  case first =>
    go_region_held3 (fun w' => w'.cell? ⟨w.heap.size, 0, none⟩ = some (.int .i64 ux) ∧ w'.cell? ⟨w.heap.size, 1, none⟩ = some (.int .i64 uy) ∧ w'.cell? ⟨w.heap.size, 2, none⟩ = some (.int .i64 vx) ∧ w'.cell? ⟨w.heap.size, 3, none⟩ = some (.int .i64 vy))
      (go_keep) (first | fail)
    · go_wp2_with fail
      go_meet
      exact ⟨_, _, rfl, rfl, (lh_mk1 w _ ux uy vx vy px py).next ((New.refl _).drewN 1)⟩
    · go_wp2_with fail
      go_meet
      exact ⟨_, _, rfl, rfl, (lh_mk2 w _ ux uy vx vy px py).next ((New.refl _).drewN 1)⟩
  case rest =>
    obtain ⟨b1, b2, rfl, rfl, H⟩ := hcut
    have d0 := pair_cell0 H.out.k1
    have d1 := pair_cell1 H.out.k1
    have d2 := pair_cell0 H.out.k2
    have d3 := pair_cell1 H.out.k2
    have f1 : ∀ o, wc.frozen? ⟨b1, o, none⟩ = false := fun o => pair_free H.out.k1
    have f2 : ∀ o, wc.frozen? ⟨b2, o, none⟩ = false := fun o => pair_free H.out.k2
    have n1 := H.out.ne
    have n2 := H.out.ne.symm
    have p0 := H.out.p0
    have p1 := H.out.p1
    by_cases hy : vy < uy
    · have HW : Hid (LH w ((((wc.setCell ⟨b1, 0, none⟩ (.int .i64 vx)).setCell ⟨b1, 1, none⟩ (.int .i64 vy)).setCell ⟨b2, 0, none⟩ (.int .i64 ux)).setCell ⟨b2, 1, none⟩ (.int .i64 uy)) b1 b2 vx vy ux uy px py) := H.out.swap H.out.q1 H.out.q2
      have s0 := HW.out.p0
      have s1 := HW.out.p1
      have HV : Hid (passB (ux, uy) (vx, vy) (px, py) = (decide (vy ≤ py) && decide (py < uy) && decide (0 < sgn (det vx vy ux uy px py)))) := by
        rw [Hid, passB, lowP, highP, if_pos (show (vx, vy).2 < (ux, uy).2 from hy), if_pos (show (vx, vy).2 < (ux, uy).2 from hy)]; rfl
      by_cases g1 : vy ≤ py
      · by_cases g2 : py < uy
        · go_wp2_with fail
          refine (of_any vx vy ux uy px py _ HC.out.2.1.1 HC.out.2.1.2 HC.out.1.1 HC.out.1.2 HC.out.2.2.1 HC.out.2.2.2).mono ?_
          rintro e w3 ⟨rfl, H3⟩
          by_cases g3 : 0 < sgn (det vx vy ux uy px py)
          · have HR : Hid (passB (ux, uy) (vx, vy) (px, py) = true) := by rw [Hid, HV.out]; simp [g1, g2, g3]
            go_wp2_with fail
            go_ret
            exact ⟨by rw [HR.out]; simp, HW.out.new.trans' H3.out⟩
          · have HR : Hid (passB (ux, uy) (vx, vy) (px, py) = false) := by rw [Hid, HV.out]; simp [g3]
            go_wp2_with fail
            go_ret
            exact ⟨by rw [HR.out]; simp [g3], HW.out.new.trans' H3.out⟩
        · have HR : Hid (passB (ux, uy) (vx, vy) (px, py) = false) := by rw [Hid, HV.out]; simp [g2]
          go_wp2_with fail
          go_ret
          exact ⟨by rw [HR.out]; rfl, HW.out.new⟩
      · have HR : Hid (passB (ux, uy) (vx, vy) (px, py) = false) := by rw [Hid, HV.out]; simp [g1]
        go_wp2_with fail
        go_ret
        exact ⟨by rw [HR.out]; rfl, HW.out.new⟩
    · have HV : Hid (passB (ux, uy) (vx, vy) (px, py) = (decide (uy ≤ py) && decide (py < vy) && decide (0 < sgn (det ux uy vx vy px py)))) := by
        rw [Hid, passB, lowP, highP, if_neg (show ¬ (vx, vy).2 < (ux, uy).2 from hy), if_neg (show ¬ (vx, vy).2 < (ux, uy).2 from hy)]; rfl
      by_cases g1 : uy ≤ py
      · by_cases g2 : py < vy
        · go_wp2_with fail
          refine (of_any ux uy vx vy px py _ HC.out.1.1 HC.out.1.2 HC.out.2.1.1 HC.out.2.1.2 HC.out.2.2.1 HC.out.2.2.2).mono ?_
          rintro e w3 ⟨rfl, H3⟩
          by_cases g3 : 0 < sgn (det ux uy vx vy px py)
          · have HR : Hid (passB (ux, uy) (vx, vy) (px, py) = true) := by rw [Hid, HV.out]; simp [g1, g2, g3]
            go_wp2_with fail
            go_ret
            exact ⟨by rw [HR.out]; simp, H.out.new.trans' H3.out⟩
          · have HR : Hid (passB (ux, uy) (vx, vy) (px, py) = false) := by rw [Hid, HV.out]; simp [g3]
            go_wp2_with fail
            go_ret
            exact ⟨by rw [HR.out]; simp [g3], H.out.new.trans' H3.out⟩
        · have HR : Hid (passB (ux, uy) (vx, vy) (px, py) = false) := by rw [Hid, HV.out]; simp [g2]
          go_wp2_with fail
          go_ret
          exact ⟨by rw [HR.out]; rfl, H.out.new⟩
      · have HR : Hid (passB (ux, uy) (vx, vy) (px, py) = false) := by rw [Hid, HV.out]; simp [g1]
        go_wp2_with fail
        go_ret
        exact ⟨by rw [HR.out]; rfl, H.out.new⟩

end Go.Proofs.Ytgeoffpcmkofkaa
