/- Yd; Fo; Yk; Yl; Ym; Fp; Yo: texts laid into one. -/
import Derived.Test.YtgeoffpcmkofkaaQad
import Derived.Deep.DeepCutAuto
import Derived.Test.YtgeoffpcmkofkaaQac
import Derived.Deep.RegionHeld3
import Derived.Laws.CopyOwn
/- The walks of 'meetInLine' and 'Meet' of package segment. -/
namespace Go.Proofs.Ytgeoffpcmkofkaa
open Go.RowKit Fl
set_option maxRecDepth 100000
attribute [local go_sem ↓] Go.wp_at_zero Go.wp_at_succ

theorem New.kept {w1 w2 : World} (h : New w1 w2) {b o : Nat} {v : Value} (hc : w1.cell? ⟨b, o, none⟩ = some v) : w2.cell? ⟨b, o, none⟩ = some v :=
  (h.rule b o (World.block_lt_of_cell? w1 _ hc)).trans hc
theorem behind2 {w1 : World} {b o : Nat} {v : Value} (hc : w1.cell? ⟨b, o, none⟩ = some v) : ∀ o1 o2, ((w1.alloc o1).alloc o2).cell? ⟨b, o, none⟩ = some v := fun o1 o2 => ((New.alloc w1 o1).alloc' o2).kept hc

set_option maxHeartbeats 1600000 in
theorem line_any (ax ay bx by' cx cy dx dy : Int) (w : World) (ha : CdP (ax, ay)) (hb : CdP (bx, by')) (hc : CdP (cx, cy)) (hd : CdP (dx, dy)) :
    Calls Try.prog 64 #[.agg #[.int .i64 ax, .int .i64 ay, .int .i64 bx, .int .i64 by'], .agg #[.int .i64 cx, .int .i64 cy, .int .i64 dx, .int .i64 dy]] w fun e w' => e = .returned (.int .i64 (lineN (ax, ay) (bx, by') (cx, cy) (dx, dy))) ∧ Hid (New w w') := by
  go_enter Try.func64, Try.ntmps64
  go_wp2_with fail
  refine (sorted_any ax ay bx by' _ ha hb).mono ?_
  rintro e w1 ⟨fx, fy, lx, ly, rfl, HK1, H1⟩
  have HW1 : Hid (New w w1) := ((New.alloc _ _).alloc' _).trans' H1.out
  have t0 := behind2 (show w1.cell? ⟨w.heap.size + 1, 0, none⟩ = some (.int .i64 cx) by rw [H1.out.rule _ _ (by simp)]; go_simp)
  have t1 := behind2 (show w1.cell? ⟨w.heap.size + 1, 1, none⟩ = some (.int .i64 cy) by rw [H1.out.rule _ _ (by simp)]; go_simp)
  have t2 := behind2 (show w1.cell? ⟨w.heap.size + 1, 2, none⟩ = some (.int .i64 dx) by rw [H1.out.rule _ _ (by simp)]; go_simp)
  have t3 := behind2 (show w1.cell? ⟨w.heap.size + 1, 3, none⟩ = some (.int .i64 dy) by rw [H1.out.rule _ _ (by simp)]; go_simp)
  clear H1
  go_wp2_with fail
  refine (sorted_any cx cy dx dy _ hc hd).mono ?_
  rintro e w2 ⟨gx, gy, mx, my, rfl, HK2, H2⟩
  have HW2 : Hid (New w w2) := ((HW1.out.alloc' _).alloc' _).trans' H2.out
  have HC : Hid ((CdP (fx, fy) ∧ CdP (lx, ly)) ∧ (CdP (gx, gy) ∧ CdP (mx, my))) := ⟨Srt.cd HK1.out ha hb, Srt.cd HK2.out hc hd⟩
  have f0 := behind2 (show w2.cell? ⟨w1.heap.size, 0, none⟩ = some (.int .i64 fx) by rw [H2.out.rule _ _ (by simp; omega)]; go_simp)
  have f1 := behind2 (show w2.cell? ⟨w1.heap.size, 1, none⟩ = some (.int .i64 fy) by rw [H2.out.rule _ _ (by simp; omega)]; go_simp)
  have l0 : w2.cell? ⟨w1.heap.size + 1, 0, none⟩ = some (.int .i64 lx) := by rw [H2.out.rule _ _ (by simp)]; go_simp
  have l1 : w2.cell? ⟨w1.heap.size + 1, 1, none⟩ = some (.int .i64 ly) := by rw [H2.out.rule _ _ (by simp)]; go_simp
  clear t0 t1 t2 t3 H2
  go_wp2_with fail
  refine (sorted_any fx fy gx gy _ HC.out.1.1 HC.out.2.1).mono ?_
  rintro e w3 ⟨hx, hy, nx, ny, rfl, HK3, H3⟩
  have HW3 : Hid (New w w3) := ((HW2.out.alloc' _).alloc' _).trans' H3.out
  have HC3 : Hid (CdP (hx, hy) ∧ CdP (nx, ny)) := Srt.cd HK3.out HC.out.1.1 HC.out.2.1
  have l0' : w3.cell? ⟨w1.heap.size + 1, 0, none⟩ = some (.int .i64 lx) := H3.out.kept (behind2 l0 _ _)
  have l1' : w3.cell? ⟨w1.heap.size + 1, 1, none⟩ = some (.int .i64 ly) := H3.out.kept (behind2 l1 _ _)
  have m0 : w3.cell? ⟨w2.heap.size + 1, 0, none⟩ = some (.int .i64 mx) := by rw [H3.out.rule _ _ (by simp)]; go_simp
  have m1 : w3.cell? ⟨w2.heap.size + 1, 1, none⟩ = some (.int .i64 my) := by rw [H3.out.rule _ _ (by simp)]; go_simp
  have l0a := behind2 l0'
  have l1a := behind2 l1'
  have m0a := behind2 m0
  have m1a := behind2 m1
  clear H3 f0 f1 l0 l1
  go_wp2_with fail
  refine (sorted_any lx ly mx my _ HC.out.1.2 HC.out.2.2).mono ?_
  rintro e w4 ⟨ix, iy, ox, oy, rfl, HK4, H4⟩
  have HW4 : Hid (New w w4) := ((HW3.out.alloc' _).alloc' _).trans' H4.out
  have HC4 : Hid (CdP (ix, iy) ∧ CdP (ox, oy)) := Srt.cd HK4.out HC.out.1.2 HC.out.2.2
  have n0 : w4.cell? ⟨w3.heap.size + 1, 0, none⟩ = some (.int .i64 nx) := by rw [H4.out.rule _ _ (by simp)]; go_simp
  have n1 : w4.cell? ⟨w3.heap.size + 1, 1, none⟩ = some (.int .i64 ny) := by rw [H4.out.rule _ _ (by simp)]; go_simp
  have n0a := behind2 n0
  have n1a := behind2 n1
  clear H4 l0' l1' m0 m1 l0a l1a m0a m1a
  have HE : Hid (cmpP (ix, iy) (nx, ny) = sgn (K (ix, iy) - K (nx, ny))) := cmpP_eq HC4.out.1 HC3.out.2
  have HV : Hid ((0 < cmpP (ix, iy) (nx, ny) → lineN (ax, ay) (bx, by') (cx, cy) (dx, dy) = 3) ∧ (cmpP (ix, iy) (nx, ny) = 0 → lineN (ax, ay) (bx, by') (cx, cy) (dx, dy) = 2) ∧ (cmpP (ix, iy) (nx, ny) < 0 → lineN (ax, ay) (bx, by') (cx, cy) (dx, dy) = 0)) := by
    have k1 := HK1.out
    have k2 := HK2.out
    have k3 := HK3.out.2.1
    have k4 := HK4.out.1
    rw [k1.1, k2.1] at k3
    rw [k1.2.1, k2.2.1] at k4
    rw [Hid, HE.out, sgn_pos, sgn_zero, sgn_neg']
    unfold lineN
    rw [← k3, ← k4]
    refine ⟨fun h => by rw [if_pos (by omega)], fun h => by rw [if_neg (by omega), if_pos (by omega)], fun h => by rw [if_neg (by omega), if_neg (by omega)]⟩
  clear HK1 HK2 HK3 HK4 HC HC3 HC4 HE
  go_wp2_with fail
  refine (compare_any ix iy nx ny _).mono ?_
  rintro e w5 ⟨rfl, H5⟩
  have HW5 : Hid (New w w5) := ((HW4.out.alloc' _).alloc' _).trans' H5.out
  clear H5
  rcases Int.lt_trichotomy (cmpP (ix, iy) (nx, ny)) 0 with h | h | h
  · have HR : Hid (lineN (ax, ay) (bx, by') (cx, cy) (dx, dy) = 0) := HV.out.2.2 h
    go_wp2_with fail
    go_ret
    exact ⟨by rw [HR.out]; rfl, HW5⟩
  · have HR : Hid (lineN (ax, ay) (bx, by') (cx, cy) (dx, dy) = 2) := HV.out.2.1 h
    go_wp2_with fail
    go_ret
    exact ⟨by rw [HR.out]; rfl, HW5⟩
  · have HR : Hid (lineN (ax, ay) (bx, by') (cx, cy) (dx, dy) = 3) := HV.out.1 h
    go_wp2_with fail
    go_ret
    exact ⟨by rw [HR.out]; rfl, HW5⟩

end Go.Proofs.Ytgeoffpcmkofkaa
/- Small facts of memory. -/
namespace Go.Proofs.Ytgeoffpcmkofkaa
open Go.RowKit Fl
set_option maxRecDepth 100000

theorem Try.info3 : (Try.prog.info? 3).map (fun i => (i.zero, i.size, i.bytes)) = some (some (.int .i64 0), 1, 8) := by kernel_rfl

theorem pair_cell0 {w : World} {b : Nat} {x y : Value} {t : TypeId} (h : w.heap[b]? = some (.cells #[x, y] t (0, 0))) : w.cell? ⟨b, 0, none⟩ = some x := by simp [World.cell?, h]
theorem pair_cell1 {w : World} {b : Nat} {x y : Value} {t : TypeId} (h : w.heap[b]? = some (.cells #[x, y] t (0, 0))) : w.cell? ⟨b, 1, none⟩ = some y := by simp [World.cell?, h]
theorem pair_free {w : World} {b o : Nat} {x y : Value} {t : TypeId} (h : w.heap[b]? = some (.cells #[x, y] t (0, 0))) : w.frozen? ⟨b, o, none⟩ = false := by simp [World.frozen?, h]
theorem pair_set1 {w : World} {b : Nat} {x y u : Value} {t : TypeId} (h : w.heap[b]? = some (.cells #[x, y] t (0, 0))) : (w.setCell ⟨b, 1, none⟩ u).heap[b]? = some (.cells #[x, u] t (0, 0)) := by
  have hlt := lt_of_block h
  have h' : w.heap[b] = .cells #[x, y] t (0, 0) := by simpa [Array.getElem?_eq_getElem hlt] using h
  show (w.heap.modify b _)[b]? = _
  rw [Array.getElem?_eq_getElem (by simpa using hlt), Array.getElem_modify_self, h']
  rfl
theorem pair_set0 {w : World} {b : Nat} {x y u : Value} {t : TypeId} (h : w.heap[b]? = some (.cells #[x, y] t (0, 0))) : (w.setCell ⟨b, 0, none⟩ u).heap[b]? = some (.cells #[u, y] t (0, 0)) := by
  have hlt := lt_of_block h
  have h' : w.heap[b] = .cells #[x, y] t (0, 0) := by simpa [Array.getElem?_eq_getElem hlt] using h
  show (w.heap.modify b _)[b]? = _
  rw [Array.getElem?_eq_getElem (by simpa using hlt), Array.getElem_modify_self, h']
  rfl

theorem New.frule {W w1 : World} (h : New W w1) : ∀ b o, b < W.heap.size → w1.frozen? ⟨b, o, none⟩ = W.frozen? ⟨b, o, none⟩ :=
  fun b o hb => World.frozen?_of_block (a := ⟨b, o, none⟩) (h.block b hb (by simp))
theorem New.drew {w w1 : World} (h : New w w1) : New w w1.drew := h.drewN 1

end Go.Proofs.Ytgeoffpcmkofkaa
/- The walk of 'passesRight' of package inside. -/
namespace Go.Proofs.Ytgeoffpcmkofkaa
open Go.RowKit Fl
set_option maxRecDepth 100000
attribute [local go_sem ↓] Go.wp_at_zero Go.wp_at_succ

/-- Does the edge from u to v pass p on its right? -/
def lowP (u v : Pt) : Pt := if v.2 < u.2 then v else u
def highP (u v : Pt) : Pt := if v.2 < u.2 then u else v
def passB (u v p : Pt) : Bool := decide ((lowP u v).2 ≤ p.2) && decide (p.2 < (highP u v).2) && decide (0 < sgn (D (lowP u v) (highP u v) p))

/-- Two variables hold points. -/
structure LH (w wx : World) (b1 b2 : Nat) (ux uy vx vy px py : Int) : Prop where
  new : New w wx
  ge1 : w.heap.size ≤ b1
  ge2 : w.heap.size ≤ b2
  ne : b1 ≠ b2
  q1 : w.heap.size + 1 ≠ b1
  q2 : w.heap.size + 1 ≠ b2
  k1 : wx.heap[b1]? = some (.cells #[.int .i64 ux, .int .i64 uy] 23 (0, 0))
  k2 : wx.heap[b2]? = some (.cells #[.int .i64 vx, .int .i64 vy] 23 (0, 0))
  p0 : wx.cell? ⟨w.heap.size + 1, 0, none⟩ = some (.int .i64 px)
  p1 : wx.cell? ⟨w.heap.size + 1, 1, none⟩ = some (.int .i64 py)

theorem LH.next {w wx wy : World} {b1 b2 : Nat} {ux uy vx vy px py : Int} (h : LH w wx b1 b2 ux uy vx vy px py) (H : New wx wy) : LH w wy b1 b2 ux uy vx vy px py :=
  ⟨h.new.trans' H, h.ge1, h.ge2, h.ne, h.q1, h.q2, (H.block _ (Array.getElem?_eq_some_iff.1 h.k1).1 (by simp)).trans h.k1, (H.block _ (Array.getElem?_eq_some_iff.1 h.k2).1 (by simp)).trans h.k2, H.kept h.p0, H.kept h.p1⟩
theorem LH.swap {w wx : World} {b1 b2 : Nat} {ux uy vx vy px py : Int} (h : LH w wx b1 b2 ux uy vx vy px py) (h1 : w.heap.size + 1 ≠ b1) (h2 : w.heap.size + 1 ≠ b2) :
    LH w ((((wx.setCell ⟨b1, 0, none⟩ (.int .i64 vx)).setCell ⟨b1, 1, none⟩ (.int .i64 vy)).setCell ⟨b2, 0, none⟩ (.int .i64 ux)).setCell ⟨b2, 1, none⟩ (.int .i64 uy)) b1 b2 vx vy ux uy px py := by
  refine ⟨(((h.new.set h.ge1 _).set h.ge1 _).set h.ge2 _).set h.ge2 _, h.ge1, h.ge2, h.ne, h1, h2, ?_, ?_, ?_, ?_⟩
  · rw [heap_setCell_other _ ⟨b2, 1, none⟩ b1 _ h.ne, heap_setCell_other _ ⟨b2, 0, none⟩ b1 _ h.ne]
    exact pair_set1 (pair_set0 h.k1)
  · refine pair_set1 (pair_set0 (x := .int .i64 vx) (y := .int .i64 vy) ?_)
    rw [heap_setCell_other _ ⟨b1, 1, none⟩ b2 _ h.ne.symm, heap_setCell_other _ ⟨b1, 0, none⟩ b2 _ h.ne.symm]
    exact h.k2
  · rw [set_other h2, set_other h2, set_other h1, set_other h1]; exact h.p0
  · rw [set_other h2, set_other h2, set_other h1, set_other h1]; exact h.p1

theorem heap_at_end {W : World} {o : Obj} {n : Nat} (hn : n = W.heap.size) : (W.alloc o).heap[n]? = some o := by
  subst hn; exact _root_.Go.heap_alloc_new W o
theorem lh_mk1 (w : World) (o : Obj) (ux uy vx vy px py : Int) : LH w ((((w.alloc o).alloc (.cells #[.int .i64 px, .int .i64 py] 23)).alloc (.cells #[.int .i64 ux, .int .i64 uy] 23)).alloc (.cells #[.int .i64 vx, .int .i64 vy] 23)) (w.heap.size + 1 + 1) (w.heap.size + 1 + 1 + 1) ux uy vx vy px py :=
  ⟨(((New.alloc _ _).alloc' _).alloc' _).alloc' _, by omega, by omega, by omega, by omega, by omega, ((New.alloc _ _).block _ (by simp) (by simp)).trans (heap_at_end (by simp)), heap_at_end (by simp), by go_simp, by go_simp⟩
theorem lh_mk2 (w : World) (o : Obj) (ux uy vx vy px py : Int) : LH w ((((w.alloc o).alloc (.cells #[.int .i64 px, .int .i64 py] 23)).alloc (.cells #[.int .i64 vx, .int .i64 vy] 23)).alloc (.cells #[.int .i64 ux, .int .i64 uy] 23)) (w.heap.size + 1 + 1 + 1) (w.heap.size + 1 + 1) ux uy vx vy px py :=
  ⟨(((New.alloc _ _).alloc' _).alloc' _).alloc' _, by omega, by omega, by omega, by omega, by omega, heap_at_end (by simp), ((New.alloc _ _).block _ (by simp) (by simp)).trans (heap_at_end (by simp)), by go_simp, by go_simp⟩

set_option maxHeartbeats 1600000 in
theorem passes_any (ux uy vx vy px py : Int) (w : World) (hu : CdP (ux, uy)) (hv : CdP (vx, vy)) (hp : CdP (px, py)) :
    Calls Try.prog 67 #[.agg #[.int .i64 ux, .int .i64 uy, .int .i64 vx, .int .i64 vy], .agg #[.int .i64 px, .int .i64 py]] w fun e w' => e = .returned (.bool (passB (ux, uy) (vx, vy) (px, py))) ∧ Hid (New w w') := by
  have HC : Hid ((Cd ux ∧ Cd uy) ∧ (Cd vx ∧ Cd vy) ∧ (Cd px ∧ Cd py)) := ⟨hu, hv, hp⟩
  clear hu hv hp
  go_enter Try.func67, Try.ntmps67
  go_wp2_with fail
  go_cut [5, 6] from 7 to 10 (fun s5 s6 wx => ∃ b1 b2 : Nat, s5 = .pointer (some ⟨b1, 0, none⟩) ∧ s6 = .pointer (some ⟨b2, 0, none⟩) ∧ Hid (LH w wx b1 b2 ux uy vx vy px py))
  case first =>
    go_region_held3 (fun w' => w'.cell? ⟨w.heap.size, 0, none⟩ = some (.int .i64 ux) ∧ w'.cell? ⟨w.heap.size, 1, none⟩ = some (.int .i64 uy) ∧ w'.cell? ⟨w.heap.size, 2, none⟩ = some (.int .i64 vx) ∧ w'.cell? ⟨w.heap.size, 3, none⟩ = some (.int .i64 vy))
      (go_keep) (first | fail)
    · go_wp2_with fail
      go_meet
      exact ⟨_, _, rfl, rfl, (lh_mk1 w _ ux uy vx vy px py).next ((New.refl _).drewN 1)⟩
    · go_wp2_with fail
      go_meet
      exact ⟨_, _, rfl, rfl, (lh_mk2 w _ ux uy vx vy px py).next ((New.refl _).drewN 1)⟩
  case rest =>
    obtain ⟨b1, b2, rfl, rfl, H⟩ := hcut
    have d0 := pair_cell0 H.out.k1
    have d1 := pair_cell1 H.out.k1
    have d2 := pair_cell0 H.out.k2
    have d3 := pair_cell1 H.out.k2
    have f1 : ∀ o, wc.frozen? ⟨b1, o, none⟩ = false := fun o => pair_free H.out.k1
    have f2 : ∀ o, wc.frozen? ⟨b2, o, none⟩ = false := fun o => pair_free H.out.k2
    have n1 := H.out.ne
    have n2 := H.out.ne.symm
    have p0 := H.out.p0
    have p1 := H.out.p1
    by_cases hy : vy < uy
    · have HW : Hid (LH w ((((wc.setCell ⟨b1, 0, none⟩ (.int .i64 vx)).setCell ⟨b1, 1, none⟩ (.int .i64 vy)).setCell ⟨b2, 0, none⟩ (.int .i64 ux)).setCell ⟨b2, 1, none⟩ (.int .i64 uy)) b1 b2 vx vy ux uy px py) := H.out.swap H.out.q1 H.out.q2
      have s0 := HW.out.p0
      have s1 := HW.out.p1
      have HV : Hid (passB (ux, uy) (vx, vy) (px, py) = (decide (vy ≤ py) && decide (py < uy) && decide (0 < sgn (det vx vy ux uy px py)))) := by
        rw [Hid, passB, lowP, highP, if_pos (show (vx, vy).2 < (ux, uy).2 from hy), if_pos (show (vx, vy).2 < (ux, uy).2 from hy)]; rfl
      by_cases g1 : vy ≤ py
      · by_cases g2 : py < uy
        · go_wp2_with fail
          refine (of_any vx vy ux uy px py _ HC.out.2.1.1 HC.out.2.1.2 HC.out.1.1 HC.out.1.2 HC.out.2.2.1 HC.out.2.2.2).mono ?_
          rintro e w3 ⟨rfl, H3⟩
          by_cases g3 : 0 < sgn (det vx vy ux uy px py)
          · have HR : Hid (passB (ux, uy) (vx, vy) (px, py) = true) := by rw [Hid, HV.out]; simp [g1, g2, g3]
            go_wp2_with fail
            go_ret
            exact ⟨by rw [HR.out]; simp, HW.out.new.trans' H3.out⟩
          · have HR : Hid (passB (ux, uy) (vx, vy) (px, py) = false) := by rw [Hid, HV.out]; simp [g3]
            go_wp2_with fail
            go_ret
            exact ⟨by rw [HR.out]; simp [g3], HW.out.new.trans' H3.out⟩
        · have HR : Hid (passB (ux, uy) (vx, vy) (px, py) = false) := by rw [Hid, HV.out]; simp [g2]
          go_wp2_with fail
          go_ret
          exact ⟨by rw [HR.out]; rfl, HW.out.new⟩
      · have HR : Hid (passB (ux, uy) (vx, vy) (px, py) = false) := by rw [Hid, HV.out]; simp [g1]
        go_wp2_with fail
        go_ret
        exact ⟨by rw [HR.out]; rfl, HW.out.new⟩
    · have HV : Hid (passB (ux, uy) (vx, vy) (px, py) = (decide (uy ≤ py) && decide (py < vy) && decide (0 < sgn (det ux uy vx vy px py)))) := by
        rw [Hid, passB, lowP, highP, if_neg (show ¬ (vx, vy).2 < (ux, uy).2 from hy), if_neg (show ¬ (vx, vy).2 < (ux, uy).2 from hy)]; rfl
      by_cases g1 : uy ≤ py
      · by_cases g2 : py < vy
        · go_wp2_with fail
          refine (of_any ux uy vx vy px py _ HC.out.1.1 HC.out.1.2 HC.out.2.1.1 HC.out.2.1.2 HC.out.2.2.1 HC.out.2.2.2).mono ?_
          rintro e w3 ⟨rfl, H3⟩
          by_cases g3 : 0 < sgn (det ux uy vx vy px py)
          · have HR : Hid (passB (ux, uy) (vx, vy) (px, py) = true) := by rw [Hid, HV.out]; simp [g1, g2, g3]
            go_wp2_with fail
            go_ret
            exact ⟨by rw [HR.out]; simp, H.out.new.trans' H3.out⟩
          · have HR : Hid (passB (ux, uy) (vx, vy) (px, py) = false) := by rw [Hid, HV.out]; simp [g3]
            go_wp2_with fail
            go_ret
            exact ⟨by rw [HR.out]; simp [g3], H.out.new.trans' H3.out⟩
        · have HR : Hid (passB (ux, uy) (vx, vy) (px, py) = false) := by rw [Hid, HV.out]; simp [g2]
          go_wp2_with fail
          go_ret
          exact ⟨by rw [HR.out]; rfl, H.out.new⟩
      · have HR : Hid (passB (ux, uy) (vx, vy) (px, py) = false) := by rw [Hid, HV.out]; simp [g1]
        go_wp2_with fail
        go_ret
        exact ⟨by rw [HR.out]; rfl, H.out.new⟩

end Go.Proofs.Ytgeoffpcmkofkaa
/- The walk of 'Of' of package inside. -/
namespace Go.Proofs.Ytgeoffpcmkofkaa
open Go.RowKit Fl
set_option maxRecDepth 100000
attribute [local go_sem ↓] Go.wp_at_zero Go.wp_at_succ

def ptAt (l : Pts) (i : Nat) : Pt := l.getD i (0, 0)
/-- The edges of a polygon. -/
def edgeOn (l : Pts) (p : Pt) (i : Nat) : Bool := onB (ptAt l i) (ptAt l ((i + 1) % l.length)) p
def edgePass (l : Pts) (p : Pt) (i : Nat) : Bool := passB (ptAt l i) (ptAt l ((i + 1) % l.length)) p
def anyOn (l : Pts) (p : Pt) : Nat → Bool
  | 0 => false
  | k + 1 => anyOn l p k || edgeOn l p k
def oddK (l : Pts) (p : Pt) : Nat → Bool
  | 0 => false
  | k + 1 => bif edgePass l p k then !oddK l p k else oddK l p k
def withinN (l : Pts) (p : Pt) : Int := bif anyOn l p l.length then 0 else bif oddK l p l.length then 1 else -1
def parI (b : Bool) : Int := bif b then 1 else -1

theorem parI_neg (b : Bool) : wrap64 (-parI b) = parI (!b) := by
  cases b <;> (simp only [parI, cond_true, cond_false, Bool.not_true, Bool.not_false]; unfold wrap64; omega)

theorem anyOn_up {l : Pts} {p : Pt} {k : Nat} (h : edgeOn l p k = true) : ∀ n, k < n → anyOn l p n = true
  | n + 1, hn => by
    rcases Nat.lt_or_ge k n with h1 | h1
    · simp [anyOn, anyOn_up h n h1]
    · have : k = n := by omega
      subst this
      simp [anyOn, h]
theorem ptAt_eq {l : Pts} {i : Nat} (h : i < l.length) : ptAt l i = l[i] := by simp [ptAt, h]
theorem ptAt_cd {l : Pts} (h : okB l = true) {i : Nat} (hi : i < l.length) : CdP (ptAt l i) := by
  rw [ptAt_eq hi]; exact okB_cd h (List.getElem_mem hi)

set_option maxHeartbeats 1600000 in
theorem insideOf_some (g off cap : Nat) (l : Pts) (px py : Int) (w : World) (h : PtsAt w g off l) (hg : g < w.heap.size) (hn : 0 < l.length) (h40 : l.length ≤ 40) (hok : okB l = true) (hp : CdP (px, py)) :
    Calls Try.prog 51 #[.slice (some ⟨g, off, none⟩) l.length cap, .agg #[.int .i64 px, .int .i64 py]] w fun e w' => e = .returned (.int .i64 (withinN l (px, py))) ∧ Hid (New w w') := by
  have HP : Hid (PtsAt w g off l ∧ g < w.heap.size ∧ okB l = true ∧ CdP (px, py)) := ⟨h, hg, hok, hp⟩
  clear h hok hp
  go_enter Try.func51, Try.ntmps51
  go_wp2_with fail
  go_loopw [5, 11] (fun av iv wr => ∃ k : Nat, iv = .int .i64 k ∧ k ≤ l.length ∧ av = .int .i64 (parI (oddK l (px, py) k)) ∧ Hid (New w wr ∧ anyOn l (px, py) k = false ∧ wr.cell? ⟨w.heap.size, 0, none⟩ = some (.int .i64 px) ∧ wr.cell? ⟨w.heap.size, 1, none⟩ = some (.int .i64 py)))
    (fun _ iv _ => l.length - (intOf iv).toNat)
  case atStart => exact ⟨0, rfl, Nat.zero_le _, rfl, New.alloc _ _, rfl, by go_simp, by go_simp⟩
  case round =>
    obtain ⟨k, rfl, hle, rfl, H⟩ := hrel
    by_cases hk : k < l.length
    · obtain ⟨m, hm⟩ : ∃ m, m = (k + 1) % l.length := ⟨_, rfl⟩
      have hml : m < l.length := by rw [hm]; exact Nat.mod_lt _ hn
      obtain ⟨ux, hux⟩ : ∃ x, x = l[k].1 := ⟨_, rfl⟩
      obtain ⟨uy, huy⟩ : ∃ x, x = l[k].2 := ⟨_, rfl⟩
      obtain ⟨vx, hvx⟩ : ∃ x, x = l[m].1 := ⟨_, rfl⟩
      obtain ⟨vy, hvy⟩ : ∃ x, x = l[m].2 := ⟨_, rfl⟩
      have HU : Hid (ptAt l k = (ux, uy) ∧ ptAt l ((k + 1) % l.length) = (vx, vy)) := by
        rw [← hm, Hid, ptAt_eq hk, ptAt_eq hml, hux, huy, hvx, hvy]; exact ⟨rfl, rfl⟩
      have HC : Hid (CdP (ux, uy) ∧ CdP (vx, vy) ∧ CdP (px, py)) := by
        have e1 := ptAt_cd HP.out.2.2.1 hk
        have e2 := ptAt_cd HP.out.2.2.1 hml
        rw [HU.out.1] at e1
        rw [hm, HU.out.2] at e2
        exact ⟨e1, e2, HP.out.2.2.2⟩
      have HK := HP.out.1.kept HP.out.2.1 H.out.1
      have u0 := (HK k hk).1
      have u1 := (HK k hk).2
      have v0 := (HK m hml).1
      have v1 := (HK m hml).2
      rw [← hux] at u0
      rw [← huy] at u1
      rw [← hvx] at v0
      rw [← hvy] at v1
      have HR : Hid (g < wr.heap.size) := Nat.lt_of_lt_of_le HP.out.2.1 H.out.1.size
      have hr : ((k : Int) + 1).tmod (l.length : Int) = (m : Int) := by rw [hm, Int.tmod_eq_emod_of_nonneg (by omega)]; rfl
      have hw1 : IntKind.i64.wrap ((k : Int) + 1) = (k : Int) + 1 := by rw [IntKind.wrap_i64]; omega
      have hw2 : IntKind.i64.wrap (m : Int) = (m : Int) := by rw [IntKind.wrap_i64]; omega
      have hl0 : l ≠ [] := by rintro rfl; simp at hn
      have hl1 : l.length ≠ 0 := by omega
      have hm0 : (0 : Int) ≤ (m : Int) := by omega
      have hm1 : (m : Int) < (l.length : Int) := by omega
      have HM : Hid (m = (k + 1) % l.length) := hm
      clear hux huy hvx hvy HK hm
      go_wp2_with fail
      go_region_held3 (fun w' => w'.cell? ⟨wr.heap.size, 0, none⟩ = some (.int .i64 ux) ∧ w'.cell? ⟨wr.heap.size, 1, none⟩ = some (.int .i64 uy) ∧ w'.cell? ⟨g, off + m * 2, none⟩ = some (.int .i64 vx) ∧ w'.cell? ⟨g, off + m * 2 + 1, none⟩ = some (.int .i64 vy))
        (go_keep) (first | fail)
      have pb0 := behind2 H.out.2.2.1
      have pb1 := behind2 H.out.2.2.2
      clear u0 u1 v0 v1
      go_wp2_with fail
      refine (holds_any ux uy vx vy px py _ HC.out.1 HC.out.2.1 HC.out.2.2).mono ?_
      rintro e w2 ⟨rfl, H2⟩
      have HN2 : Hid (New w w2) := (((H.out.1.alloc' _).alloc' _).drewN 1).trans' H2.out
      have e0 : w2.cell? ⟨wr.heap.size + 1, 0, none⟩ = some (.int .i64 ux) := H2.out.kept (by go_simp)
      have e1 : w2.cell? ⟨wr.heap.size + 1, 1, none⟩ = some (.int .i64 uy) := H2.out.kept (by go_simp)
      have e2 : w2.cell? ⟨wr.heap.size + 1, 2, none⟩ = some (.int .i64 vx) := H2.out.kept (by go_simp)
      have e3 : w2.cell? ⟨wr.heap.size + 1, 3, none⟩ = some (.int .i64 vy) := H2.out.kept (by go_simp)
      have q0 : w2.cell? ⟨w.heap.size, 0, none⟩ = some (.int .i64 px) := H2.out.kept (pb0 _ _)
      have q1 : w2.cell? ⟨w.heap.size, 1, none⟩ = some (.int .i64 py) := H2.out.kept (pb1 _ _)
      clear pb0 pb1 H2
      cases ho : onB (ux, uy) (vx, vy) (px, py) with
      | true =>
        have HV : Hid (withinN l (px, py) = 0) := by
          have : edgeOn l (px, py) k = true := by rw [edgeOn, HU.out.1, HU.out.2]; exact ho
          rw [Hid, withinN, anyOn_up this _ hk]; rfl
        go_wp2_with fail
        go_ret
        exact ⟨by rw [HV.out]; rfl, HN2⟩
      | false =>
        have HO : Hid (anyOn l (px, py) (k + 1) = false) := by
          have : edgeOn l (px, py) k = false := by rw [edgeOn, HU.out.1, HU.out.2]; exact ho
          rw [Hid, anyOn, H.out.2.1, this]; rfl
        clear ho
        go_wp2_with fail
        refine (passes_any ux uy vx vy px py _ HC.out.1 HC.out.2.1 HC.out.2.2).mono ?_
        rintro e w3 ⟨rfl, H3⟩
        have HR3 : Hid (New w w3 ∧ anyOn l (px, py) (k + 1) = false ∧ w3.cell? ⟨w.heap.size, 0, none⟩ = some (.int .i64 px) ∧ w3.cell? ⟨w.heap.size, 1, none⟩ = some (.int .i64 py)) := ⟨HN2.out.trans' H3.out, HO.out, H3.out.kept q0, H3.out.kept q1⟩
        clear H3 e0 e1 e2 e3 q0 q1
        cases hs : passB (ux, uy) (vx, vy) (px, py) with
        | true =>
          have hp : edgePass l (px, py) k = true := by rw [edgePass, HU.out.1, HU.out.2]; exact hs
          have HE : Hid (oddK l (px, py) (k + 1) = !oddK l (px, py) k) := by rw [Hid, oddK, hp]; rfl
          clear hs hp
          generalize oddK l (px, py) k = b at *
          cases b
          · go_wp2_with fail
            go_roundw
            case rel => exact ⟨k + 1, by go_num, hk, by rw [HE.out, parI_neg], HR3⟩
            case measure => simp [intOf]; omega
          · go_wp2_with fail
            go_roundw
            case rel => exact ⟨k + 1, by go_num, hk, by rw [HE.out, parI_neg], HR3⟩
            case measure => simp [intOf]; omega
        | false =>
          have hp : edgePass l (px, py) k = false := by rw [edgePass, HU.out.1, HU.out.2]; exact hs
          have HE : Hid (oddK l (px, py) (k + 1) = oddK l (px, py) k) := by rw [Hid, oddK, hp]; rfl
          clear hs hp
          go_wp2_with fail
          go_roundw
          case rel => exact ⟨k + 1, by go_num, hk, by rw [HE.out], HR3⟩
          case measure => simp [intOf]; omega
    · have hkk : k = l.length := by omega
      subst hkk
      have HV : Hid (withinN l (px, py) = parI (oddK l (px, py) l.length)) := by rw [Hid, withinN, H.out.2.1]; rfl
      go_wp2_with fail
      go_ret
      exact ⟨by rw [HV.out]; rfl, H.out.1⟩

set_option maxHeartbeats 800000 in
theorem insideOf_none (ao : Option Addr) (cap : Nat) (px py : Int) (w : World) :
    Calls Try.prog 51 #[.slice ao 0 cap, .agg #[.int .i64 px, .int .i64 py]] w fun e w' => e = .returned (.int .i64 (withinN [] (px, py))) ∧ Hid (New w w') := by
  go_enter Try.func51, Try.ntmps51
  go_wp2_with fail
  go_loop [5, 11] (fun av iv => av = .int .i64 (-1) ∧ iv = .int .i64 0) (fun _ _ => 0)
  case atStart => exact ⟨rfl, rfl⟩
  case round =>
    obtain ⟨rfl, rfl⟩ := hrel
    go_wp2_with fail
    go_ret
    exact ⟨rfl, New.alloc _ _⟩

/-- A list of points, wherever it lies; one without points anywhere. -/
def PolyAt (w : World) (ao : Option Addr) (l : Pts) : Prop := 0 < l.length → ∃ g off, ao = some ⟨g, off, none⟩ ∧ PtsAt w g off l ∧ g < w.heap.size
theorem PolyAt.kept {w w' : World} {ao : Option Addr} {l : Pts} (h : PolyAt w ao l) (H : New w w') : PolyAt w' ao l := fun h0 => by
  obtain ⟨g, off, e, h1, h2⟩ := h h0
  exact ⟨g, off, e, h1.kept h2 H, Nat.lt_of_lt_of_le h2 H.size⟩

theorem insideOf_any (ao : Option Addr) (cap : Nat) (l : Pts) (px py : Int) (w : World) (h : PolyAt w ao l) (h40 : l.length ≤ 40) (hok : okB l = true) (hp : CdP (px, py)) :
    Calls Try.prog 51 #[.slice ao l.length cap, .agg #[.int .i64 px, .int .i64 py]] w fun e w' => e = .returned (.int .i64 (withinN l (px, py))) ∧ Hid (New w w') := by
  match l, h, h40, hok with
  | [], _, _, _ => exact insideOf_none ao cap px py w
  | q :: l, h, h40, hok =>
    obtain ⟨g, off, rfl, h1, h2⟩ := h (by simp)
    exact insideOf_some g off cap (q :: l) px py w h1 h2 (by simp) h40 hok hp

end Go.Proofs.Ytgeoffpcmkofkaa
/- The walks of 'checkList' and 'Within' of package plumb. -/
namespace Go.Proofs.Ytgeoffpcmkofkaa
open Go.RowKit Fl
set_option maxRecDepth 100000

set_option maxHeartbeats 800000 in
theorem checkPoints_none (ao : Option Addr) (cap : Nat) (w : World) :
    Calls Try.prog 36 #[.slice ao 0 cap] w fun e w' => e = .returned (.int .i64 (okE [])) ∧ Hid (New w w') := by
  go_enter Try.func36, Try.ntmps36
  go_wp2_with fail
  go_loop [7] (fun iv => iv = .int .i64 0) (fun _ => 0)
  case atStart => rfl
  case round =>
    subst hrel
    go_wp2_with fail
    go_ret
    exact ⟨rfl, New.refl _⟩

theorem checkPoints_poly (ao : Option Addr) (cap : Nat) (l : Pts) (w : World) (h : PolyAt w ao l) (hs : l.length ≤ 100000000000000) :
    Calls Try.prog 36 #[.slice ao l.length cap] w fun e w' => e = .returned (.int .i64 (okE l)) ∧ Hid (New w w') := by
  match l, h, hs with
  | [], _, _ => exact checkPoints_none ao cap w
  | q :: l, h, hs =>
    obtain ⟨g, off, rfl, h1, h2⟩ := h (by simp)
    exact checkPoints_len g off cap (q :: l) w h1 h2 hs

def errL (l : Pts) : Int := if 40 < l.length then 2 else okE l

set_option maxHeartbeats 800000 in
theorem checkList_len (ao : Option Addr) (cap : Nat) (l : Pts) (w : World) (h : PolyAt w ao l) :
    Calls Try.prog 50 #[.slice ao l.length cap] w fun e w' => e = .returned (.int .i64 (errL l)) ∧ Hid (New w w') := by
  by_cases h40 : 40 < l.length
  · have HE : Hid (errL l = 2) := by rw [Hid, errL, if_pos h40]
    go_enter Try.func50, Try.ntmps50
    go_wp2_with fail
    go_ret
    exact ⟨by rw [HE.out]; rfl, New.refl _⟩
  · have HE : Hid (errL l = okE l) := by rw [Hid, errL, if_neg h40]
    have HP : Hid (PolyAt w ao l) := h
    clear h
    go_enter Try.func50, Try.ntmps50
    go_wp2_with fail
    refine (checkPoints_poly ao cap l _ HP.out (by omega)).mono ?_
    rintro e w1 ⟨rfl, H1⟩
    go_wp2_with fail
    go_ret
    exact ⟨by rw [HE.out]; rfl, H1⟩
theorem checkList_any (ao : Option Addr) (cap : Nat) (l : Pts) (w : World) (h : PolyAt w ao l) (_hc : l.length ≤ cap) (_hs : cap ≤ 100000000000000) :
    Calls Try.prog 50 #[.slice ao l.length cap] w fun e w' => e = .returned (.int .i64 (errL l)) ∧ Hid (New w w') := checkList_len ao cap l w h

theorem ptsAt1 {w : World} {g : Nat} {ax ay : Int} (h : w.heap[g]? = some (.cells #[.int .i64 ax, .int .i64 ay] 23 (0, 0))) : PtsAt w g 0 [(ax, ay)] := by
  intro i hi
  rw [cell_of_row w g _ _ 23 (0, 0) h, cell_of_row w g _ _ 23 (0, 0) h]
  match i, hi with
  | 0, _ => exact ⟨rfl, rfl⟩
theorem check1 (ax ay : Int) (W : World) (g : Nat) (hg : g = W.heap.size) :
    Calls Try.prog 36 #[.slice (some ⟨g, 0, none⟩) 1 1] (W.alloc (.cells #[.int .i64 ax, .int .i64 ay] 23)) fun e w' => e = .returned (.int .i64 (okE [(ax, ay)])) ∧ Hid (New W w') := by
  subst hg
  refine (checkPoints_any W.heap.size 0 1 [(ax, ay)] _ (ptsAt1 (_root_.Go.heap_alloc_new W _)) (by simp) (by simp) (by omega)).mono ?_
  rintro e w1 ⟨rfl, H1⟩
  exact ⟨rfl, (New.alloc W _).trans' H1.out⟩

/-- What 'Within' answers. -/
def wErr (l : Pts) (p : Pt) : Int := if errL l = 0 then okE [p] else errL l
def wNum (l : Pts) (p : Pt) : Int := if wErr l p = 0 then withinN l p else 0

theorem errL_vals (l : Pts) : errL l = 0 ∨ errL l = 1 ∨ errL l = 2 := by
  unfold errL okE
  split
  · exact Or.inr (Or.inr rfl)
  · split
    · exact Or.inl rfl
    · exact Or.inr (Or.inl rfl)
theorem okE_vals (l : Pts) : (okE l = 0 ∧ okB l = true) ∨ (okE l = 1 ∧ okB l = false) := by
  unfold okE
  cases okB l
  · exact Or.inr ⟨rfl, rfl⟩
  · exact Or.inl ⟨rfl, rfl⟩
theorem errL_ok {l : Pts} (h : errL l = 0) : l.length ≤ 40 ∧ okB l = true := by
  unfold errL at h
  by_cases h40 : 40 < l.length
  · rw [if_pos h40] at h; omega
  · rw [if_neg h40] at h
    rcases okE_vals l with h1 | h1
    · exact ⟨by omega, h1.2⟩
    · omega

set_option maxHeartbeats 1600000 in
theorem within_len (ao : Option Addr) (cap : Nat) (l : Pts) (px py : Int) (w : World) (h : PolyAt w ao l) :
    Calls Try.prog 27 #[.slice ao l.length cap, .agg #[.int .i64 px, .int .i64 py]] w fun e w' => e = .returned (.tuple #[.int .i64 (wNum l (px, py)), .int .i64 (wErr l (px, py))]) ∧ Hid (New w w') := by
  have HP : Hid (PolyAt w ao l) := h
  clear h
  go_enter Try.func27, Try.ntmps27
  go_wp2_with fail
  refine (checkList_len ao cap l _ (HP.out.kept (New.alloc _ _))).mono ?_
  rintro e w1 ⟨rfl, H1⟩
  have r1 := H1.out.rule
  rcases errL_vals l with hE | hE | hE
  · have HE : Hid (errL l = 0) := hE
    have HW : Hid (wErr l (px, py) = okE [(px, py)]) := by rw [Hid, wErr, if_pos hE]
    go_wp2_with fail
    refine (check1 px py _ _ (by simp)).mono ?_
    rintro e w2 ⟨rfl, H2⟩
    have r2 := (H1.out.trans' H2.out).rule
    clear r1
    rcases okE_vals [(px, py)] with ⟨hO, hB⟩ | ⟨hO, hB⟩
    · have HV : Hid (wNum l (px, py) = withinN l (px, py) ∧ wErr l (px, py) = 0 ∧ CdP (px, py)) := ⟨by rw [wNum, HW.out, if_pos hO], by rw [HW.out, hO], okB_cd hB (p := (px, py)) (by simp)⟩
      clear hB
      go_wp2_with fail
      refine (insideOf_any ao cap l px py _ ((HP.out.kept (New.alloc _ _)).kept (H1.out.trans' H2.out)) (errL_ok HE.out).1 (errL_ok HE.out).2 HV.out.2.2).mono ?_
      rintro e w3 ⟨rfl, H3⟩
      clear r2
      go_wp2_with fail
      go_ret2
      exact ⟨by rw [HV.out.1, HV.out.2.1]; rfl, ((New.alloc _ _).trans' (H1.out.trans' H2.out)).trans' H3.out⟩
    · have HV : Hid (wNum l (px, py) = 0 ∧ wErr l (px, py) = 1) := ⟨by rw [wNum, HW.out, if_neg (by omega)], by rw [HW.out, hO]⟩
      clear hB
      go_wp2_with fail
      go_ret2
      exact ⟨by rw [HV.out.1, HV.out.2]; rfl, (New.alloc _ _).trans' (H1.out.trans' H2.out)⟩
  · have HV : Hid (wNum l (px, py) = 0 ∧ wErr l (px, py) = 1) := by
      have e : wErr l (px, py) = 1 := by rw [wErr, if_neg (by omega)]; exact hE
      exact ⟨by rw [wNum, e]; rfl, e⟩
    go_wp2_with fail
    go_ret2
    exact ⟨by rw [HV.out.1, HV.out.2]; rfl, (New.alloc _ _).trans' H1.out⟩
  · have HV : Hid (wNum l (px, py) = 0 ∧ wErr l (px, py) = 2) := by
      have e : wErr l (px, py) = 2 := by rw [wErr, if_neg (by omega)]; exact hE
      exact ⟨by rw [wNum, e]; rfl, e⟩
    go_wp2_with fail
    go_ret2
    exact ⟨by rw [HV.out.1, HV.out.2]; rfl, (New.alloc _ _).trans' H1.out⟩

theorem within_any (ao : Option Addr) (cap : Nat) (l : Pts) (px py : Int) (w : World) (h : PolyAt w ao l) (_hc : l.length ≤ cap) (_hs : cap ≤ 100000000000000) :
    Calls Try.prog 27 #[.slice ao l.length cap, .agg #[.int .i64 px, .int .i64 py]] w fun e w' => e = .returned (.tuple #[.int .i64 (wNum l (px, py)), .int .i64 (wErr l (px, py))]) ∧ Hid (New w w') := within_len ao cap l px py w h
end Go.Proofs.Ytgeoffpcmkofkaa
/- Points as cells. -/
namespace Go.Proofs.Ytgeoffpcmkofkaa
open Go.RowKit Fl
set_option maxRecDepth 100000

theorem Try.info23 : (Try.prog.info? 23).map (fun i => (i.zero, i.size, i.bytes)) = some (some (.agg #[.int .i64 0, .int .i64 0]), 2, 16) := by kernel_rfl

/-- Points as cells. -/
def flatP : Pts → List Value
  | [] => []
  | p :: l => .int .i64 p.1 :: .int .i64 p.2 :: flatP l
theorem flatP_append (a b : Pts) : flatP (a ++ b) = flatP a ++ flatP b := by
  induction a with
  | nil => rfl
  | cons p l ih => simp [flatP, ih]

/-- Its numbers are numbers of 64 bits. -/
def In64 (l : Pts) : Prop := ∀ p ∈ l, (-9223372036854775808 ≤ p.1 ∧ p.1 < 9223372036854775808) ∧ (-9223372036854775808 ≤ p.2 ∧ p.2 < 9223372036854775808)

theorem own_ne {W : World} {base e size n : Nat} {v : Value} {xs : List Value} (h : W.ownsRow base e size v n xs) {g : Nat} (hg : g < base) : some g ≠ v.ownBlock := by
  rcases h.2 with ⟨rfl, _⟩ | ⟨g', cap, cur, rfl, hb, _⟩
  · simp [Value.ownBlock]
  · simp [Value.ownBlock]; omega

theorem New.drew1 {w w1 : World} (h : New w w1) : New w w1.drew := ⟨h.os, h.tape, h.output, h.size, h.block⟩
end Go.Proofs.Ytgeoffpcmkofkaa
/- The walk of plumblaw's 'lent': points with a place behind them. -/
namespace Go.Proofs.Ytgeoffpcmkofkaa
open Go.RowKit Fl
set_option maxRecDepth 100000

theorem made_zero (m : Nat) : (madeCells #[.int .i64 0, .int .i64 0] m).toList = List.replicate m (.int .i64 0) := by
  rw [List.eq_replicate_iff]
  refine ⟨by simp [madeCells], ?_⟩
  intro b hb
  simp only [madeCells, Array.toList_map, Array.toList_range, List.mem_map] at hb
  obtain ⟨j, _, rfl⟩ := hb
  have h : j % #[Value.int .i64 0, Value.int .i64 0].size = 0 ∨ j % #[Value.int .i64 0, Value.int .i64 0].size = 1 := by simp; omega
  rcases h with h | h <;> rw [h] <;> rfl

theorem flatP_length (l : Pts) : (flatP l).length = l.length * 2 := by
  induction l with
  | nil => rfl
  | cons p l ih => simp [flatP, ih]; omega
theorem flatP_get : ∀ (l : Pts) (i : Nat) (h : i < l.length), (flatP l)[i * 2]? = some (.int .i64 l[i].1) ∧ (flatP l)[i * 2 + 1]? = some (.int .i64 l[i].2)
  | [], i, h => by simp at h
  | p :: l, 0, h => ⟨rfl, rfl⟩
  | p :: l, i + 1, h => by
    have := flatP_get l i (by simpa using h)
    have e1 : (i + 1) * 2 = i * 2 + 1 + 1 := by omega
    rw [e1]
    simpa [flatP] using this
theorem flatP_one (l : Pts) : ∀ v ∈ flatP l, v.oneCell' = true := by
  induction l with
  | nil => intro v h; simp [flatP] at h
  | cons p l ih =>
    intro v h
    simp only [flatP, List.mem_cons] at h
    rcases h with rfl | rfl | h
    · rfl
    · rfl
    · exact ih v h
/-- A row of points. -/
theorem pts_row {w : World} {g : Nat} {l : Pts} {cur : Array Value} {t : TypeId} (hg : w.heap[g]? = some (.cells cur t (0, 0))) (hc : cur = (flatP l).toArray) : PtsAt w g 0 l := by
  intro i hi
  have := flatP_get l i hi
  rw [Nat.zero_add, cell_of_row w g _ _ t (0, 0) hg, cell_of_row w g _ _ t (0, 0) hg, hc]
  simpa using this
/-- Cells of points that lie there. -/
theorem pts_cells {w : World} {g off : Nat} {l : Pts} (h : PtsAt w g off l) : ∀ j v, (flatP l)[j]? = some v → w.cell? ((⟨g, off, none⟩ : Addr).add j) = some v := by
  intro j v hv
  have hj : j < (flatP l).length := (List.getElem?_eq_some_iff.1 hv).1
  rw [flatP_length] at hj
  have hadd : (⟨g, off, none⟩ : Addr).add j = ⟨g, off + j, none⟩ := by unfold Addr.add; split <;> simp_all
  rw [hadd]
  have hi : j / 2 < l.length := by omega
  have f := flatP_get l (j / 2) hi
  have c := h (j / 2) hi
  rcases (show j = j / 2 * 2 ∨ j = j / 2 * 2 + 1 by omega) with e | e
  · rw [e] at hv ⊢
    rw [f.1] at hv
    rw [c.1, hv]
  · rw [e] at hv ⊢
    rw [f.2] at hv
    rw [← Nat.add_assoc, c.2, hv]

/-- 'copy' of elements of two cells, onto the head of a row. -/
theorem run_copy_pairs {P : Program} (w : World) (dT sT ty elem : TypeId) (g dLen dCap : Nat) (sp : Option Addr) (sLen sCap : Nat) (cur : Array Value) (t : TypeId) (cs : List Value) (n : Nat)
    (hu : P.underlying dT = some (.slice elem)) (hs : (P.info? elem).map (·.size) = some 2) (hg : w.heap[g]? = some (.cells cur t (0, 0))) (hn : n = Nat.min sLen dLen) (hcs : cs.length = n * 2)
    (hsrc : 0 < n → ∃ ad, sp = some ad ∧ ∀ j v, cs[j]? = some v → w.cell? (ad.add j) = some v) (hfit : cs.length ≤ cur.size) (h1 : ∀ v ∈ cs, v.oneCell' = true) :
    (Builtin.copy_ #[dT, sT] ty #[.slice (some ⟨g, 0, none⟩) dLen dCap, .slice sp sLen sCap]).run P w = .ok (goInt n) (w.setRow g (cs ++ cur.toList.drop cs.length).toArray) := by
  cases hq : P.info? elem with
  | none => simp [hq] at hs
  | some i =>
    have hi : i.size = 2 := by simpa [hq] using hs
    by_cases h0 : 0 < n
    · obtain ⟨ad, rfl, hsr⟩ := hsrc h0
      have hl := run_loadCells_list (P := P) w ad cs hsr
      have hst := run_storeCells_at P g 0 t cs 0 cur w hg (by simpa using hfit) h1
      simp [Builtin.copy_, run_underlying hu, Builtin.lenOf, Builtin.firstCells, sizeOf, typeInfo, hq, hi, ← hn, ← hcs, hl, hst]
    · have hn0 : n = 0 := by omega
      subst hn0
      have hc0 : cs = [] := List.eq_nil_of_length_eq_zero (by omega)
      subst hc0
      have hset : w.setRow g ([] ++ cur.toList.drop ([] : List Value).length).toArray = w := by simpa using setRow_self w g cur t (0, 0) hg
      rw [hset]
      have hl : ∀ (x : Addr), (loadCells x 0).run P w = .ok #[] w := fun x => by simpa using run_loadCells_list (P := P) w x [] (by simp)
      cases sp <;> simp [Builtin.copy_, run_underlying hu, Builtin.lenOf, Builtin.firstCells, sizeOf, typeInfo, hq, ← hn, storeCells, hl]

theorem wpList_copy_pairs {P : Program} {w : World} {ops : Array Oper} {rest : List Oper} {o : Oper} {a : Act} {Q : Exit → Act → World → Prop} (hgd : o.guard = none) (d s : Operand) (dT sT : TypeId)
    (ho : o.op = .call { callee := .builtin .copy, args := #[d, s], argTypes := #[dT, sT] }) (elem : TypeId) (hu : P.underlying dT = some (.slice elem)) (hsz : (P.info? elem).map (·.size) = some 2)
    (g dLen dCap : Nat) (sp : Option Addr) (sLen sCap : Nat) (hd : a.eval d = .slice (some ⟨g, 0, none⟩) dLen dCap) (hs : a.eval s = .slice sp sLen sCap) (cur : Array Value) (t : TypeId) (cs : List Value) (n : Nat)
    (hg : w.heap[g]? = some (.cells cur t (0, 0))) (hn : n = Nat.min sLen dLen) (hcs : cs.length = n * 2)
    (hsrc : 0 < n → ∃ ad, sp = some ad ∧ ∀ j v, cs[j]? = some v → w.cell? (ad.add j) = some v) (hfit : cs.length ≤ cur.size) (h1 : ∀ v ∈ cs, v.oneCell' = true)
    (h : ∀ w', w' = w.setRow g (cs ++ cur.toList.drop cs.length).toArray → wpList P ops Q rest (a.put o.dst (goInt n)) w') : wpList P ops Q (o :: rest) a w := by
  refine wpList_plain hgd fun K hK => ?_
  have hrun := run_copy_pairs (P := P) w dT sT o.type elem g dLen dCap sp sLen sCap cur t cs n hu hsz hg hn hcs hsrc hfit h1
  unfold Oper.wp
  simp [execOp, ho, resolve, invoke, builtin, hd, hs, hrun, Result.andThen]
  exact hK _ _ (by simpa using h _ rfl)

/-- What 'lent' leaves. -/
structure Lent (w w' : World) (l : Pts) : Prop where
  new : New w w'
  pts : PtsAt w' w.heap.size 0 (l ++ [(0, 0)])
  lt : w.heap.size < w'.heap.size
  row : w'.heap[w.heap.size]? = some (.cells (flatP (l ++ [(0, 0)])).toArray 23 (0, 0))

theorem New.kept' {w w' : World} (h : New w w') {a : Addr} {v : Value} (hc : w.cell? a = some v) : w'.cell? a = some v :=
  (World.cell?_of_block (h.block a.block (World.block_lt_of_cell? w _ hc) (by simp))).trans hc

theorem Lent.drew {w w' : World} {l : Pts} (h : Lent w w' l) : Lent w w'.drew l := ⟨h.new.drewN 1, h.pts, h.lt, h.row⟩
theorem eq_nil_some (a : Addr) (n cap : Nat) (w : World) : (binOp BinOp.eql 28 (.slice (some a) n cap) (.slice none 0 0)).run Try.prog w = .ok (.bool false) w := by kernel_rfl
theorem eq_nil_none (w : World) : (binOp BinOp.eql 28 (.slice none 0 0) (.slice none 0 0)).run Try.prog w = .ok (.bool true) w := by kernel_rfl

set_option maxHeartbeats 1600000 in
theorem lent_some (a : Addr) (cap : Nat) (l : Pts) (w : World) (h : PolyAt w (some a) l) (hs : cap ≤ 10000000000000) (hc : l.length ≤ cap) :
    Calls Try.prog 26 #[.slice (some a) l.length cap] w fun e w' => e = .returned (.tuple #[.slice (some ⟨w.heap.size, 0, none⟩) (l.length + 1) (l.length + 1), .slice (some ⟨w.heap.size, 0, none⟩) l.length (l.length + 1)]) ∧ Hid (Lent w w' l) := by
  obtain ⟨i0, hi0, hz0, hz1, hz2⟩ := info_parts Try.info23
  have HP : Hid (PolyAt w (some a) l) := h
  have HS : Hid ((Try.prog.info? 23).map (·.size) = some 2) := by rw [Hid, hi0]; simp [hz1]
  go_enter Try.func26, Try.ntmps26
  go_wp2_with (at_make; refine wpList_make_full _ rfl _ _ 28 rfl w.heap.size 23 i0 (.agg #[.int .i64 0, .int .i64 0]) 2 Try.underlying28 hi0 hz0 hz1 _ _ _ _ ((l.length + 1)) rfl rfl (by omega) (by omega) ?b2 ?b3 ?b4 ?_)
  case b2 => rw [hz2]; omega
  case b3 => unfold maxLen; omega
  case b4 => exact Nat.le_refl _
  intro w0 hown0 hgrow0
  have HN0 : Hid (New w w0) := hgrow0
  obtain ⟨cur, hcur⟩ : ∃ cur, w0.heap[w.heap.size]? = some (.cells cur 23 (0, 0)) ∧ cur.toList = List.replicate ((l.length + 1) * 2) (.int .i64 0) := by
    rcases hown0.2 with ⟨e, _⟩ | ⟨g, cap', cur, e, _, e3, _, _, e6, e7⟩
    · simp at e
    · injection e with e1 e2 e4
      simp only [Option.some.injEq, Addr.mk.injEq, and_true] at e1
      subst e1 e4
      refine ⟨cur, e3, ?_⟩
      have : cur.toList.take ((l.length + 1) * 2) = cur.toList := List.take_of_length_le (by simp [e6])
      rw [← this, e7]
      exact made_zero _
  have HCUR : Hid (w0.heap[w.heap.size]? = some (.cells cur 23 (0, 0)) ∧ cur.toList = List.replicate ((l.length + 1) * 2) (.int .i64 0)) := hcur
  clear hcur hown0 hgrow0
  have hcp := run_copy_pairs (P := Try.prog) w0 28 28 3 23 w.heap.size (l.length + 1) (l.length + 1) (some a) l.length cap cur 23 (flatP l) l.length Try.underlying28 HS.out HCUR.out.1 (by simp) (flatP_length l)
    (fun h0 => by
      obtain ⟨g, off, e, h1, h2⟩ := HP.out h0
      exact ⟨_, e, fun j v hv => HN0.out.kept' (pts_cells h1 j v hv)⟩)
    (by
      have : cur.size = (l.length + 1) * 2 := by rw [← Array.length_toList, HCUR.out.2]; simp
      rw [flatP_length, this]; simp <;> omega) (flatP_one l)
  obtain ⟨w1, hw1⟩ : ∃ w1, w1 = w0.setRow w.heap.size (flatP l ++ cur.toList.drop (flatP l).length).toArray := ⟨_, rfl⟩
  rw [← hw1] at hcp
  have HL : Hid (Lent w w1 l) := by
    have hb : w1.heap[w.heap.size]? = some (.cells (flatP (l ++ [(0, 0)])).toArray 23 (0, 0)) := by
      rw [hw1]
      have : (flatP l ++ cur.toList.drop (flatP l).length).toArray = (flatP (l ++ [(0, 0)])).toArray := by
        rw [HCUR.out.2, flatP_append, List.drop_replicate, flatP_length, show (l.length + 1) * 2 - l.length * 2 = 2 by omega]; rfl
      rw [← this]
      exact setRow_heap w0 w.heap.size _ _ 23 _ HCUR.out.1
    exact ⟨by rw [hw1]; exact Below.new' (below_setRow (New.below' HN0.out) (Nat.le_refl _) _), pts_row hb rfl, (Array.getElem?_eq_some_iff.1 hb).1, hb⟩
  clear hw1
  have heq := eq_nil_some a l.length cap w1
  go_wp2_with fail
  have hb0 : (0 : Int) ≤ (l.length : Int) := by omega
  have hb1 : (l.length : Int) ≤ (l.length : Int) + 1 := by omega
  go_region_held3 (fun _ => True) (trivial) (first | fail)
  go_wp2_with fail
  go_ret2
  exact ⟨rfl, HL.out.drew⟩

set_option maxHeartbeats 1600000 in
theorem lent_nil (w : World) :
    Calls Try.prog 26 #[.slice none 0 0] w fun e w' => e = .returned (.tuple #[.slice (some ⟨w.heap.size, 0, none⟩) 1 1, .slice none 0 0]) ∧ Hid (Lent w w' ([] : Pts)) := by
  obtain ⟨i0, hi0, hz0, hz1, hz2⟩ := info_parts Try.info23
  have HP : Hid (PolyAt w none ([] : Pts)) := fun h => by simp at h
  have HS : Hid ((Try.prog.info? 23).map (·.size) = some 2) := by rw [Hid, hi0]; simp [hz1]
  go_enter Try.func26, Try.ntmps26
  go_wp2_with (at_make; refine wpList_make_full _ rfl _ _ 28 rfl w.heap.size 23 i0 (.agg #[.int .i64 0, .int .i64 0]) 2 Try.underlying28 hi0 hz0 hz1 _ _ _ _ (1) rfl rfl (by omega) (by omega) ?b2 ?b3 ?b4 ?_)
  case b2 => rw [hz2]; omega
  case b3 => unfold maxLen; omega
  case b4 => exact Nat.le_refl _
  intro w0 hown0 hgrow0
  have HN0 : Hid (New w w0) := hgrow0
  obtain ⟨cur, hcur⟩ : ∃ cur, w0.heap[w.heap.size]? = some (.cells cur 23 (0, 0)) ∧ cur.toList = List.replicate (1 * 2) (.int .i64 0) := by
    rcases hown0.2 with ⟨e, _⟩ | ⟨g, cap', cur, e, _, e3, _, _, e6, e7⟩
    · simp at e
    · injection e with e1 e2 e4
      simp only [Option.some.injEq, Addr.mk.injEq, and_true] at e1
      subst e1 e4
      refine ⟨cur, e3, ?_⟩
      have : cur.toList.take (1 * 2) = cur.toList := List.take_of_length_le (by simp [e6])
      rw [← this, e7]
      exact made_zero _
  have HCUR : Hid (w0.heap[w.heap.size]? = some (.cells cur 23 (0, 0)) ∧ cur.toList = List.replicate (1 * 2) (.int .i64 0)) := hcur
  clear hcur hown0 hgrow0
  have hcp := run_copy_pairs (P := Try.prog) w0 28 28 3 23 w.heap.size 1 1 none 0 0 cur 23 (flatP ([] : Pts)) 0 Try.underlying28 HS.out HCUR.out.1 (by rfl) (flatP_length ([] : Pts))
    (fun h0 => by
      obtain ⟨g, off, e, h1, h2⟩ := HP.out h0
      exact ⟨_, e, fun j v hv => HN0.out.kept' (pts_cells h1 j v hv)⟩)
    (by
      have : cur.size = 1 * 2 := by rw [← Array.length_toList, HCUR.out.2]; simp
      rw [flatP_length, this]; simp <;> omega) (flatP_one ([] : Pts))
  obtain ⟨w1, hw1⟩ : ∃ w1, w1 = w0.setRow w.heap.size (flatP ([] : Pts) ++ cur.toList.drop (flatP ([] : Pts)).length).toArray := ⟨_, rfl⟩
  rw [← hw1] at hcp
  have HL : Hid (Lent w w1 ([] : Pts)) := by
    have hb : w1.heap[w.heap.size]? = some (.cells (flatP (([] : Pts) ++ [(0, 0)])).toArray 23 (0, 0)) := by
      rw [hw1]
      have : (flatP ([] : Pts) ++ cur.toList.drop (flatP ([] : Pts)).length).toArray = (flatP (([] : Pts) ++ [(0, 0)])).toArray := by
        rw [HCUR.out.2, flatP_append, List.drop_replicate, flatP_length, show 1 * 2 - ([] : Pts).length * 2 = 2 by rfl]; rfl
      rw [← this]
      exact setRow_heap w0 w.heap.size _ _ 23 _ HCUR.out.1
    exact ⟨by rw [hw1]; exact Below.new' (below_setRow (New.below' HN0.out) (Nat.le_refl _) _), pts_row hb rfl, (Array.getElem?_eq_some_iff.1 hb).1, hb⟩
  clear hw1
  have heq := eq_nil_none w1
  go_wp2_with fail
  go_ret2
  exact ⟨rfl, HL⟩

end Go.Proofs.Ytgeoffpcmkofkaa
