/- Yk; Yl; Ym: texts laid into one. -/
import Derived.Test.YtgeoffpcmkofkaaRag
import Derived.Test.YtgeoffpcmkofkaaRae
import Derived.Deep.DeepCutAuto
/- The walk of 'passesRight' of package inside. -/
namespace Go.Proofs.Ytgeoffpcmkofkaa
open Go.RowKit Fl
set_option maxRecDepth 100000
attribute [local go_sem ↓] Go.wp_at_zero Go.wp_at_succ

/-- Does the edge from u to v pass p on its right? -/
def lowP (u v : Pt) : Pt := if v.2 < u.2 then v else u
def highP (u v : Pt) : Pt := if v.2 < u.2 then u else v
def passB (u v p : Pt) : Bool := decide ((lowP u v).2 ≤ p.2) && decide (p.2 < (highP u v).2) && decide (0 < sgn (D (lowP u v) (highP u v) p))

/-- Two variables hold points. -/
structure LH (w wx : World) (b1 b2 : Nat) (ux uy vx vy px py : Int) : Prop where
  new : New w wx
  ge1 : w.heap.size ≤ b1
  ge2 : w.heap.size ≤ b2
  ne : b1 ≠ b2
  q1 : w.heap.size + 1 ≠ b1
  q2 : w.heap.size + 1 ≠ b2
  k1 : wx.heap[b1]? = some (.cells #[.int .i64 ux, .int .i64 uy] 23 (0, 0))
  k2 : wx.heap[b2]? = some (.cells #[.int .i64 vx, .int .i64 vy] 23 (0, 0))
  p0 : wx.cell? ⟨w.heap.size + 1, 0, none⟩ = some (.int .i64 px)
  p1 : wx.cell? ⟨w.heap.size + 1, 1, none⟩ = some (.int .i64 py)

theorem LH.next {w wx wy : World} {b1 b2 : Nat} {ux uy vx vy px py : Int} (h : LH w wx b1 b2 ux uy vx vy px py) (H : New wx wy) : LH w wy b1 b2 ux uy vx vy px py :=
  ⟨h.new.trans' H, h.ge1, h.ge2, h.ne, h.q1, h.q2, (H.block _ (Array.getElem?_eq_some_iff.1 h.k1).1 (by simp)).trans h.k1, (H.block _ (Array.getElem?_eq_some_iff.1 h.k2).1 (by simp)).trans h.k2, H.kept h.p0, H.kept h.p1⟩
theorem LH.swap {w wx : World} {b1 b2 : Nat} {ux uy vx vy px py : Int} (h : LH w wx b1 b2 ux uy vx vy px py) (h1 : w.heap.size + 1 ≠ b1) (h2 : w.heap.size + 1 ≠ b2) :
    LH w ((((wx.setCell ⟨b1, 0, none⟩ (.int .i64 vx)).setCell ⟨b1, 1, none⟩ (.int .i64 vy)).setCell ⟨b2, 0, none⟩ (.int .i64 ux)).setCell ⟨b2, 1, none⟩ (.int .i64 uy)) b1 b2 vx vy ux uy px py := by
  refine ⟨(((h.new.set h.ge1 _).set h.ge1 _).set h.ge2 _).set h.ge2 _, h.ge1, h.ge2, h.ne, h1, h2, ?_, ?_, ?_, ?_⟩
  · rw [heap_setCell_other _ ⟨b2, 1, none⟩ b1 _ h.ne, heap_setCell_other _ ⟨b2, 0, none⟩ b1 _ h.ne]
    exact pair_set1 (pair_set0 h.k1)
  · refine pair_set1 (pair_set0 (x := .int .i64 vx) (y := .int .i64 vy) ?_)
    rw [heap_setCell_other _ ⟨b1, 1, none⟩ b2 _ h.ne.symm, heap_setCell_other _ ⟨b1, 0, none⟩ b2 _ h.ne.symm]
    exact h.k2
  · rw [set_other h2, set_other h2, set_other h1, set_other h1]; exact h.p0
  · rw [set_other h2, set_other h2, set_other h1, set_other h1]; exact h.p1

theorem heap_at_end {W : World} {o : Obj} {n : Nat} (hn : n = W.heap.size) : (W.alloc o).heap[n]? = some o := by
  subst hn; exact _root_.Go.heap_alloc_new W o
theorem lh_mk1 (w : World) (o : Obj) (ux uy vx vy px py : Int) : LH w ((((w.alloc o).alloc (.cells #[.int .i64 px, .int .i64 py] 23)).alloc (.cells #[.int .i64 ux, .int .i64 uy] 23)).alloc (.cells #[.int .i64 vx, .int .i64 vy] 23)) (w.heap.size + 1 + 1) (w.heap.size + 1 + 1 + 1) ux uy vx vy px py :=
  ⟨(((New.alloc _ _).alloc' _).alloc' _).alloc' _, by omega, by omega, by omega, by omega, by omega, ((New.alloc _ _).block _ (by simp) (by simp)).trans (heap_at_end (by simp)), heap_at_end (by simp), by go_simp, by go_simp⟩
theorem lh_mk2 (w : World) (o : Obj) (ux uy vx vy px py : Int) : LH w ((((w.alloc o).alloc (.cells #[.int .i64 px, .int .i64 py] 23)).alloc (.cells #[.int .i64 vx, .int .i64 vy] 23)).alloc (.cells #[.int .i64 ux, .int .i64 uy] 23)) (w.heap.size + 1 + 1 + 1) (w.heap.size + 1 + 1) ux uy vx vy px py :=
  ⟨(((New.alloc _ _).alloc' _).alloc' _).alloc' _, by omega, by omega, by omega, by omega, by omega, heap_at_end (by simp), ((New.alloc _ _).block _ (by simp) (by simp)).trans (heap_at_end (by simp)), by go_simp, by go_simp⟩

set_option maxHeartbeats 1600000 in
theorem passes_any (ux uy vx vy px py : Int) (w : World) (hu : CdP (ux, uy)) (hv : CdP (vx, vy)) (hp : CdP (px, py)) :
    Calls Try.prog 67 #[.agg #[.int .i64 ux, .int .i64 uy, .int .i64 vx, .int .i64 vy], .agg #[.int .i64 px, .int .i64 py]] w fun e w' => e = .returned (.bool (passB (ux, uy) (vx, vy) (px, py))) ∧ Hid (New w w') := by
  have HC : Hid ((Cd ux ∧ Cd uy) ∧ (Cd vx ∧ Cd vy) ∧ (Cd px ∧ Cd py)) := ⟨hu, hv, hp⟩
  clear hu hv hp
  go_enter Try.func67, Try.ntmps67
  go_wp2_with fail
  go_cut [5, 6] from 7 to 10 (fun s5 s6 wx => ∃ b1 b2 : Nat, s5 = .pointer (some ⟨b1, 0, none⟩) ∧ s6 = .pointer (some ⟨b2, 0, none⟩) ∧ Hid (LH w wx b1 b2 ux uy vx vy px py))
  case first =>
    go_region_held3 (fun w' => w'.cell? ⟨w.heap.size, 0, none⟩ = some (.int .i64 ux) ∧ w'.cell? ⟨w.heap.size, 1, none⟩ = some (.int .i64 uy) ∧ w'.cell? ⟨w.heap.size, 2, none⟩ = some (.int .i64 vx) ∧ w'.cell? ⟨w.heap.size, 3, none⟩ = some (.int .i64 vy))
      (go_keep) (first | fail)
    · go_wp2_with fail
      go_meet
      exact ⟨_, _, rfl, rfl, (lh_mk1 w _ ux uy vx vy px py).next ((New.refl _).drewN 1)⟩
    · go_wp2_with fail
      go_meet
      exact ⟨_, _, rfl, rfl, (lh_mk2 w _ ux uy vx vy px py).next ((New.refl _).drewN 1)⟩
  case rest =>
    obtain ⟨b1, b2, rfl, rfl, H⟩ := hcut
    have d0 := pair_cell0 H.out.k1
    have d1 := pair_cell1 H.out.k1
    have d2 := pair_cell0 H.out.k2
    have d3 := pair_cell1 H.out.k2
    have f1 : ∀ o, wc.frozen? ⟨b1, o, none⟩ = false := fun o => pair_free H.out.k1
    have f2 : ∀ o, wc.frozen? ⟨b2, o, none⟩ = false := fun o => pair_free H.out.k2
    have n1 := H.out.ne
    have n2 := H.out.ne.symm
    have p0 := H.out.p0
    have p1 := H.out.p1
    by_cases hy : vy < uy
    · have HW : Hid (LH w ((((wc.setCell ⟨b1, 0, none⟩ (.int .i64 vx)).setCell ⟨b1, 1, none⟩ (.int .i64 vy)).setCell ⟨b2, 0, none⟩ (.int .i64 ux)).setCell ⟨b2, 1, none⟩ (.int .i64 uy)) b1 b2 vx vy ux uy px py) := H.out.swap H.out.q1 H.out.q2
      have s0 := HW.out.p0
      have s1 := HW.out.p1
      have HV : Hid (passB (ux, uy) (vx, vy) (px, py) = (decide (vy ≤ py) && decide (py < uy) && decide (0 < sgn (det vx vy ux uy px py)))) := by
        rw [Hid, passB, lowP, highP, if_pos (show (vx, vy).2 < (ux, uy).2 from hy), if_pos (show (vx, vy).2 < (ux, uy).2 from hy)]; rfl
      by_cases g1 : vy ≤ py
      · by_cases g2 : py < uy
        · go_wp2_with fail
          refine (of_any vx vy ux uy px py _ HC.out.2.1.1 HC.out.2.1.2 HC.out.1.1 HC.out.1.2 HC.out.2.2.1 HC.out.2.2.2).mono ?_
          rintro e w3 ⟨rfl, H3⟩
          by_cases g3 : 0 < sgn (det vx vy ux uy px py)
          · have HR : Hid (passB (ux, uy) (vx, vy) (px, py) = true) := by rw [Hid, HV.out]; simp [g1, g2, g3]
            go_wp2_with fail
            go_ret
            exact ⟨by rw [HR.out]; simp, HW.out.new.trans' H3.out⟩
          · have HR : Hid (passB (ux, uy) (vx, vy) (px, py) = false) := by rw [Hid, HV.out]; simp [g3]
            go_wp2_with fail
            go_ret
            exact ⟨by rw [HR.out]; simp [g3], HW.out.new.trans' H3.out⟩
        · have HR : Hid (passB (ux, uy) (vx, vy) (px, py) = false) := by rw [Hid, HV.out]; simp [g2]
          go_wp2_with fail
          go_ret
          exact ⟨by rw [HR.out]; rfl, HW.out.new⟩
      · have HR : Hid (passB (ux, uy) (vx, vy) (px, py) = false) := by rw [Hid, HV.out]; simp [g1]
        go_wp2_with fail
        go_ret
        exact ⟨by rw [HR.out]; rfl, HW.out.new⟩
    · have HV : Hid (passB (ux, uy) (vx, vy) (px, py) = (decide (uy ≤ py) && decide (py < vy) && decide (0 < sgn (det ux uy vx vy px py)))) := by
        rw [Hid, passB, lowP, highP, if_neg (show ¬ (vx, vy).2 < (ux, uy).2 from hy), if_neg (show ¬ (vx, vy).2 < (ux, uy).2 from hy)]; rfl
      by_cases g1 : uy ≤ py
      · by_cases g2 : py < vy
        · go_wp2_with fail
          refine (of_any ux uy vx vy px py _ HC.out.1.1 HC.out.1.2 HC.out.2.1.1 HC.out.2.1.2 HC.out.2.2.1 HC.out.2.2.2).mono ?_
          rintro e w3 ⟨rfl, H3⟩
          by_cases g3 : 0 < sgn (det ux uy vx vy px py)
          · have HR : Hid (passB (ux, uy) (vx, vy) (px, py) = true) := by rw [Hid, HV.out]; simp [g1, g2, g3]
            go_wp2_with fail
            go_ret
            exact ⟨by rw [HR.out]; simp, H.out.new.trans' H3.out⟩
          · have HR : Hid (passB (ux, uy) (vx, vy) (px, py) = false) := by rw [Hid, HV.out]; simp [g3]
            go_wp2_with fail
            go_ret
            exact ⟨by rw [HR.out]; simp [g3], H.out.new.trans' H3.out⟩
        · have HR : Hid (passB (ux, uy) (vx, vy) (px, py) = false) := by rw [Hid, HV.out]; simp [g2]
          go_wp2_with fail
          go_ret
          exact ⟨by rw [HR.out]; rfl, H.out.new⟩
      · have HR : Hid (passB (ux, uy) (vx, vy) (px, py) = false) := by rw [Hid, HV.out]; simp [g1]
        go_wp2_with fail
        go_ret
        exact ⟨by rw [HR.out]; rfl, H.out.new⟩

end Go.Proofs.Ytgeoffpcmkofkaa
/- The walk of 'Of' of package inside. -/
namespace Go.Proofs.Ytgeoffpcmkofkaa
open Go.RowKit Fl
set_option maxRecDepth 100000
attribute [local go_sem ↓] Go.wp_at_zero Go.wp_at_succ

def ptAt (l : Pts) (i : Nat) : Pt := l.getD i (0, 0)
/-- The edges of a polygon. -/
def edgeOn (l : Pts) (p : Pt) (i : Nat) : Bool := onB (ptAt l i) (ptAt l ((i + 1) % l.length)) p
def edgePass (l : Pts) (p : Pt) (i : Nat) : Bool := passB (ptAt l i) (ptAt l ((i + 1) % l.length)) p
def anyOn (l : Pts) (p : Pt) : Nat → Bool
  | 0 => false
  | k + 1 => anyOn l p k || edgeOn l p k
def oddK (l : Pts) (p : Pt) : Nat → Bool
  | 0 => false
  | k + 1 => bif edgePass l p k then !oddK l p k else oddK l p k
def withinN (l : Pts) (p : Pt) : Int := bif anyOn l p l.length then 0 else bif oddK l p l.length then 1 else -1
def parI (b : Bool) : Int := bif b then 1 else -1

theorem parI_neg (b : Bool) : wrap64 (-parI b) = parI (!b) := by
  cases b <;> (simp only [parI, cond_true, cond_false, Bool.not_true, Bool.not_false]; unfold wrap64; omega)

theorem anyOn_up {l : Pts} {p : Pt} {k : Nat} (h : edgeOn l p k = true) : ∀ n, k < n → anyOn l p n = true
  | n + 1, hn => by
    rcases Nat.lt_or_ge k n with h1 | h1
    · simp [anyOn, anyOn_up h n h1]
    · have : k = n := by omega
      subst this
      simp [anyOn, h]
theorem ptAt_eq {l : Pts} {i : Nat} (h : i < l.length) : ptAt l i = l[i] := by simp [ptAt, h]
theorem ptAt_cd {l : Pts} (h : okB l = true) {i : Nat} (hi : i < l.length) : CdP (ptAt l i) := by
  rw [ptAt_eq hi]; exact okB_cd h (List.getElem_mem hi)

set_option maxHeartbeats 1600000 in
theorem insideOf_some (g off cap : Nat) (l : Pts) (px py : Int) (w : World) (h : PtsAt w g off l) (hg : g < w.heap.size) (hn : 0 < l.length) (h40 : l.length ≤ 40) (hok : okB l = true) (hp : CdP (px, py)) :
    Calls Try.prog 51 #[.slice (some ⟨g, off, none⟩) l.length cap, .agg #[.int .i64 px, .int .i64 py]] w fun e w' => e = .returned (.int .i64 (withinN l (px, py))) ∧ Hid (New w w') := by
  have HP : Hid (PtsAt w g off l ∧ g < w.heap.size ∧ okB l = true ∧ CdP (px, py)) := ⟨h, hg, hok, hp⟩
  clear h hok hp
  go_enter Try.func51, Try.ntmps51
  go_wp2_with fail
  go_loopw [5, 11] (fun av iv wr => ∃ k : Nat, iv = .int .i64 k ∧ k ≤ l.length ∧ av = .int .i64 (parI (oddK l (px, py) k)) ∧ Hid (New w wr ∧ anyOn l (px, py) k = false ∧ wr.cell? ⟨w.heap.size, 0, none⟩ = some (.int .i64 px) ∧ wr.cell? ⟨w.heap.size, 1, none⟩ = some (.int .i64 py)))
    (fun _ iv _ => l.length - (intOf iv).toNat)
  case atStart => exact ⟨0, rfl, Nat.zero_le _, rfl, New.alloc _ _, rfl, by go_simp, by go_simp⟩
  case round =>
    obtain ⟨k, rfl, hle, rfl, H⟩ := hrel
    by_cases hk : k < l.length
    · obtain ⟨m, hm⟩ : ∃ m, m = (k + 1) % l.length := ⟨_, rfl⟩
      have hml : m < l.length := by rw [hm]; exact Nat.mod_lt _ hn
      obtain ⟨ux, hux⟩ : ∃ x, x = l[k].1 := ⟨_, rfl⟩
      obtain ⟨uy, huy⟩ : ∃ x, x = l[k].2 := ⟨_, rfl⟩
      obtain ⟨vx, hvx⟩ : ∃ x, x = l[m].1 := ⟨_, rfl⟩
      obtain ⟨vy, hvy⟩ : ∃ x, x = l[m].2 := ⟨_, rfl⟩
      have HU : Hid (ptAt l k = (ux, uy) ∧ ptAt l ((k + 1) % l.length) = (vx, vy)) := by
        rw [← hm, Hid, ptAt_eq hk, ptAt_eq hml, hux, huy, hvx, hvy]; exact ⟨rfl, rfl⟩
      have HC : Hid (CdP (ux, uy) ∧ CdP (vx, vy) ∧ CdP (px, py)) := by
        have e1 := ptAt_cd HP.out.2.2.1 hk
        have e2 := ptAt_cd HP.out.2.2.1 hml
        rw [HU.out.1] at e1
        rw [hm, HU.out.2] at e2
        exact ⟨e1, e2, HP.out.2.2.2⟩
      have HK := HP.out.1.kept HP.out.2.1 H.out.1
      have u0 := (HK k hk).1
      have u1 := (HK k hk).2
      have v0 := (HK m hml).1
      have v1 := (HK m hml).2
      rw [← hux] at u0
      rw [← huy] at u1
      rw [← hvx] at v0
      rw [← hvy] at v1
      have HR : Hid (g < wr.heap.size) := Nat.lt_of_lt_of_le HP.out.2.1 H.out.1.size
      have hr : ((k : Int) + 1).tmod (l.length : Int) = (m : Int) := by rw [hm, Int.tmod_eq_emod_of_nonneg (by omega)]; rfl
      have hw1 : IntKind.i64.wrap ((k : Int) + 1) = (k : Int) + 1 := by rw [IntKind.wrap_i64]; omega
      have hw2 : IntKind.i64.wrap (m : Int) = (m : Int) := by rw [IntKind.wrap_i64]; omega
      have hl0 : l ≠ [] := by rintro rfl; simp at hn
      have hl1 : l.length ≠ 0 := by omega
      have hm0 : (0 : Int) ≤ (m : Int) := by omega
      have hm1 : (m : Int) < (l.length : Int) := by omega
      have HM : Hid (m = (k + 1) % l.length) := hm
      clear hux huy hvx hvy HK hm
      go_wp2_with fail
      go_region_held3 (fun w' => w'.cell? ⟨wr.heap.size, 0, none⟩ = some (.int .i64 ux) ∧ w'.cell? ⟨wr.heap.size, 1, none⟩ = some (.int .i64 uy) ∧ w'.cell? ⟨g, off + m * 2, none⟩ = some (.int .i64 vx) ∧ w'.cell? ⟨g, off + m * 2 + 1, none⟩ = some (.int .i64 vy))
        (go_keep) (first | fail)
      have pb0 := behind2 H.out.2.2.1
      have pb1 := behind2 H.out.2.2.2
      clear u0 u1 v0 v1
      go_wp2_with fail
      refine (holds_any ux uy vx vy px py _ HC.out.1 HC.out.2.1 HC.out.2.2).mono ?_
      rintro e w2 ⟨rfl, H2⟩
      have HN2 : Hid (New w w2) := (((H.out.1.alloc' _).alloc' _).drewN 1).trans' H2.out
      have e0 : w2.cell? ⟨wr.heap.size + 1, 0, none⟩ = some (.int .i64 ux) := H2.out.kept (by go_simp)
      have e1 : w2.cell? ⟨wr.heap.size + 1, 1, none⟩ = some (.int .i64 uy) := H2.out.kept (by go_simp)
      have e2 : w2.cell? ⟨wr.heap.size + 1, 2, none⟩ = some (.int .i64 vx) := H2.out.kept (by go_simp)
      have e3 : w2.cell? ⟨wr.heap.size + 1, 3, none⟩ = some (.int .i64 vy) := H2.out.kept (by go_simp)
      have q0 : w2.cell? ⟨w.heap.size, 0, none⟩ = some (.int .i64 px) := H2.out.kept (pb0 _ _)
      have q1 : w2.cell? ⟨w.heap.size, 1, none⟩ = some (.int .i64 py) := H2.out.kept (pb1 _ _)
      clear pb0 pb1 H2
      cases ho : onB (ux, uy) (vx, vy) (px, py) with
      | true =>
        have HV : Hid (withinN l (px, py) = 0) := by
          have : edgeOn l (px, py) k = true := by rw [edgeOn, HU.out.1, HU.out.2]; exact ho
          rw [Hid, withinN, anyOn_up this _ hk]; rfl
        go_wp2_with fail
        go_ret
        exact ⟨by rw [HV.out]; rfl, HN2⟩
      | false =>
        have HO : Hid (anyOn l (px, py) (k + 1) = false) := by
          have : edgeOn l (px, py) k = false := by rw [edgeOn, HU.out.1, HU.out.2]; exact ho
          rw [Hid, anyOn, H.out.2.1, this]; rfl
        clear ho
        go_wp2_with fail
        refine (passes_any ux uy vx vy px py _ HC.out.1 HC.out.2.1 HC.out.2.2).mono ?_
        rintro e w3 ⟨rfl, H3⟩
        have HR3 : Hid (New w w3 ∧ anyOn l (px, py) (k + 1) = false ∧ w3.cell? ⟨w.heap.size, 0, none⟩ = some (.int .i64 px) ∧ w3.cell? ⟨w.heap.size, 1, none⟩ = some (.int .i64 py)) := ⟨HN2.out.trans' H3.out, HO.out, H3.out.kept q0, H3.out.kept q1⟩
        clear H3 e0 e1 e2 e3 q0 q1
        cases hs : passB (ux, uy) (vx, vy) (px, py) with
        | true =>
          have hp : edgePass l (px, py) k = true := by rw [edgePass, HU.out.1, HU.out.2]; exact hs
          have HE : Hid (oddK l (px, py) (k + 1) = !oddK l (px, py) k) := by rw [Hid, oddK, hp]; rfl
          clear hs hp
          generalize oddK l (px, py) k = b at *
          cases b
          · go_wp2_with fail
            go_roundw
            case rel => exact ⟨k + 1, by go_num, hk, by rw [HE.out, parI_neg], HR3⟩
            case measure => simp [intOf]; omega
          · go_wp2_with fail
            go_roundw
            case rel => exact ⟨k + 1, by go_num, hk, by rw [HE.out, parI_neg], HR3⟩
            case measure => simp [intOf]; omega
        | false =>
          have hp : edgePass l (px, py) k = false := by rw [edgePass, HU.out.1, HU.out.2]; exact hs
          have HE : Hid (oddK l (px, py) (k + 1) = oddK l (px, py) k) := by rw [Hid, oddK, hp]; rfl
          clear hs hp
          go_wp2_with fail
          go_roundw
          case rel => exact ⟨k + 1, by go_num, hk, by rw [HE.out], HR3⟩
          case measure => simp [intOf]; omega
    · have hkk : k = l.length := by omega
      subst hkk
      have HV : Hid (withinN l (px, py) = parI (oddK l (px, py) l.length)) := by rw [Hid, withinN, H.out.2.1]; rfl
      go_wp2_with fail
      go_ret
      exact ⟨by rw [HV.out]; rfl, H.out.1⟩

set_option maxHeartbeats 800000 in
theorem insideOf_none (ao : Option Addr) (cap : Nat) (px py : Int) (w : World) :
    Calls Try.prog 51 #[.slice ao 0 cap, .agg #[.int .i64 px, .int .i64 py]] w fun e w' => e = .returned (.int .i64 (withinN [] (px, py))) ∧ Hid (New w w') := by
  go_enter Try.func51, Try.ntmps51
  go_wp2_with fail
  go_loop [5, 11] (fun av iv => av = .int .i64 (-1) ∧ iv = .int .i64 0) (fun _ _ => 0)
  case atStart => exact ⟨rfl, rfl⟩
  case round =>
    obtain ⟨rfl, rfl⟩ := hrel
    go_wp2_with fail
    go_ret
    exact ⟨rfl, New.alloc _ _⟩

/-- A list of points, wherever it lies; one without points anywhere. -/
def PolyAt (w : World) (ao : Option Addr) (l : Pts) : Prop := 0 < l.length → ∃ g off, ao = some ⟨g, off, none⟩ ∧ PtsAt w g off l ∧ g < w.heap.size
theorem PolyAt.kept {w w' : World} {ao : Option Addr} {l : Pts} (h : PolyAt w ao l) (H : New w w') : PolyAt w' ao l := fun h0 => by
  obtain ⟨g, off, e, h1, h2⟩ := h h0
  exact ⟨g, off, e, h1.kept h2 H, Nat.lt_of_lt_of_le h2 H.size⟩

theorem insideOf_any (ao : Option Addr) (cap : Nat) (l : Pts) (px py : Int) (w : World) (h : PolyAt w ao l) (h40 : l.length ≤ 40) (hok : okB l = true) (hp : CdP (px, py)) :
    Calls Try.prog 51 #[.slice ao l.length cap, .agg #[.int .i64 px, .int .i64 py]] w fun e w' => e = .returned (.int .i64 (withinN l (px, py))) ∧ Hid (New w w') := by
  match l, h, h40, hok with
  | [], _, _, _ => exact insideOf_none ao cap px py w
  | q :: l, h, h40, hok =>
    obtain ⟨g, off, rfl, h1, h2⟩ := h (by simp)
    exact insideOf_some g off cap (q :: l) px py w h1 h2 (by simp) h40 hok hp

end Go.Proofs.Ytgeoffpcmkofkaa
/- The walks of 'checkList' and 'Within' of package plumb. -/
namespace Go.Proofs.Ytgeoffpcmkofkaa
open Go.RowKit Fl
set_option maxRecDepth 100000

set_option maxHeartbeats 800000 in
theorem checkPoints_none (ao : Option Addr) (cap : Nat) (w : World) :
    Calls Try.prog 36 #[.slice ao 0 cap] w fun e w' => e = .returned (.int .i64 (okE [])) ∧ Hid (New w w') := by
  go_enter Try.func36, Try.ntmps36
  go_wp2_with fail
  go_loop [7] (fun iv => iv = .int .i64 0) (fun _ => 0)
  case atStart => rfl
  case round =>
    subst hrel
    go_wp2_with fail
    go_ret
    exact ⟨rfl, New.refl _⟩

theorem checkPoints_poly (ao : Option Addr) (cap : Nat) (l : Pts) (w : World) (h : PolyAt w ao l) (hs : l.length ≤ 100000000000000) :
    Calls Try.prog 36 #[.slice ao l.length cap] w fun e w' => e = .returned (.int .i64 (okE l)) ∧ Hid (New w w') := by
  match l, h, hs with
  | [], _, _ => exact checkPoints_none ao cap w
  | q :: l, h, hs =>
    obtain ⟨g, off, rfl, h1, h2⟩ := h (by simp)
    exact checkPoints_len g off cap (q :: l) w h1 h2 hs

def errL (l : Pts) : Int := if 40 < l.length then 2 else okE l

set_option maxHeartbeats 800000 in
theorem checkList_len (ao : Option Addr) (cap : Nat) (l : Pts) (w : World) (h : PolyAt w ao l) :
    Calls Try.prog 50 #[.slice ao l.length cap] w fun e w' => e = .returned (.int .i64 (errL l)) ∧ Hid (New w w') := by
  by_cases h40 : 40 < l.length
  · have HE : Hid (errL l = 2) := by rw [Hid, errL, if_pos h40]
    go_enter Try.func50, Try.ntmps50
    go_wp2_with fail
    go_ret
    exact ⟨by rw [HE.out]; rfl, New.refl _⟩
  · have HE : Hid (errL l = okE l) := by rw [Hid, errL, if_neg h40]
    have HP : Hid (PolyAt w ao l) := h
    clear h
    go_enter Try.func50, Try.ntmps50
    go_wp2_with fail
    refine (checkPoints_poly ao cap l _ HP.out (by omega)).mono ?_
    rintro e w1 ⟨rfl, H1⟩
    go_wp2_with fail
    go_ret
    exact ⟨by rw [HE.out]; rfl, H1⟩
theorem checkList_any (ao : Option Addr) (cap : Nat) (l : Pts) (w : World) (h : PolyAt w ao l) (_hc : l.length ≤ cap) (_hs : cap ≤ 100000000000000) :
    Calls Try.prog 50 #[.slice ao l.length cap] w fun e w' => e = .returned (.int .i64 (errL l)) ∧ Hid (New w w') := checkList_len ao cap l w h

theorem ptsAt1 {w : World} {g : Nat} {ax ay : Int} (h : w.heap[g]? = some (.cells #[.int .i64 ax, .int .i64 ay] 23 (0, 0))) : PtsAt w g 0 [(ax, ay)] := by
  intro i hi
  rw [cell_of_row w g _ _ 23 (0, 0) h, cell_of_row w g _ _ 23 (0, 0) h]
  match i, hi with
  | 0, _ => exact ⟨rfl, rfl⟩
theorem check1 (ax ay : Int) (W : World) (g : Nat) (hg : g = W.heap.size) :
    Calls Try.prog 36 #[.slice (some ⟨g, 0, none⟩) 1 1] (W.alloc (.cells #[.int .i64 ax, .int .i64 ay] 23)) fun e w' => e = .returned (.int .i64 (okE [(ax, ay)])) ∧ Hid (New W w') := by
  subst hg
  refine (checkPoints_any W.heap.size 0 1 [(ax, ay)] _ (ptsAt1 (_root_.Go.heap_alloc_new W _)) (by simp) (by simp) (by omega)).mono ?_
  rintro e w1 ⟨rfl, H1⟩
  exact ⟨rfl, (New.alloc W _).trans' H1.out⟩

/-- What 'Within' answers. -/
def wErr (l : Pts) (p : Pt) : Int := if errL l = 0 then okE [p] else errL l
def wNum (l : Pts) (p : Pt) : Int := if wErr l p = 0 then withinN l p else 0

theorem errL_vals (l : Pts) : errL l = 0 ∨ errL l = 1 ∨ errL l = 2 := by
  unfold errL okE
  split
  · exact Or.inr (Or.inr rfl)
  · split
    · exact Or.inl rfl
    · exact Or.inr (Or.inl rfl)
theorem okE_vals (l : Pts) : (okE l = 0 ∧ okB l = true) ∨ (okE l = 1 ∧ okB l = false) := by
  unfold okE
  cases okB l
  · exact Or.inr ⟨rfl, rfl⟩
  · exact Or.inl ⟨rfl, rfl⟩
theorem errL_ok {l : Pts} (h : errL l = 0) : l.length ≤ 40 ∧ okB l = true := by
  unfold errL at h
  by_cases h40 : 40 < l.length
  · rw [if_pos h40] at h; omega
  · rw [if_neg h40] at h
    rcases okE_vals l with h1 | h1
    · exact ⟨by omega, h1.2⟩
    · omega

set_option maxHeartbeats 1600000 in
theorem within_len (ao : Option Addr) (cap : Nat) (l : Pts) (px py : Int) (w : World) (h : PolyAt w ao l) :
    Calls Try.prog 27 #[.slice ao l.length cap, .agg #[.int .i64 px, .int .i64 py]] w fun e w' => e = .returned (.tuple #[.int .i64 (wNum l (px, py)), .int .i64 (wErr l (px, py))]) ∧ Hid (New w w') := by
  have HP : Hid (PolyAt w ao l) := h
  clear h
  go_enter Try.func27, Try.ntmps27
  go_wp2_with fail
  refine (checkList_len ao cap l _ (HP.out.kept (New.alloc _ _))).mono ?_
  rintro e w1 ⟨rfl, H1⟩
  have r1 := H1.out.rule
  rcases errL_vals l with hE | hE | hE
  · have HE : Hid (errL l = 0) := hE
    have HW : Hid (wErr l (px, py) = okE [(px, py)]) := by rw [Hid, wErr, if_pos hE]
    go_wp2_with fail
    refine (check1 px py _ _ (by simp)).mono ?_
    rintro e w2 ⟨rfl, H2⟩
    have r2 := (H1.out.trans' H2.out).rule
    clear r1
    rcases okE_vals [(px, py)] with ⟨hO, hB⟩ | ⟨hO, hB⟩
    · have HV : Hid (wNum l (px, py) = withinN l (px, py) ∧ wErr l (px, py) = 0 ∧ CdP (px, py)) := ⟨by rw [wNum, HW.out, if_pos hO], by rw [HW.out, hO], okB_cd hB (p := (px, py)) (by simp)⟩
      clear hB
      go_wp2_with fail
      refine (insideOf_any ao cap l px py _ ((HP.out.kept (New.alloc _ _)).kept (H1.out.trans' H2.out)) (errL_ok HE.out).1 (errL_ok HE.out).2 HV.out.2.2).mono ?_
      rintro e w3 ⟨rfl, H3⟩
      clear r2
      go_wp2_with fail
      go_ret2
      exact ⟨by rw [HV.out.1, HV.out.2.1]; rfl, ((New.alloc _ _).trans' (H1.out.trans' H2.out)).trans' H3.out⟩
    · have HV : Hid (wNum l (px, py) = 0 ∧ wErr l (px, py) = 1) := ⟨by rw [wNum, HW.out, if_neg (by omega)], by rw [HW.out, hO]⟩
      clear hB
      go_wp2_with fail
      go_ret2
      exact ⟨by rw [HV.out.1, HV.out.2]; rfl, (New.alloc _ _).trans' (H1.out.trans' H2.out)⟩
  · have HV : Hid (wNum l (px, py) = 0 ∧ wErr l (px, py) = 1) := by
      have e : wErr l (px, py) = 1 := by rw [wErr, if_neg (by omega)]; exact hE
      exact ⟨by rw [wNum, e]; rfl, e⟩
    go_wp2_with fail
    go_ret2
    exact ⟨by rw [HV.out.1, HV.out.2]; rfl, (New.alloc _ _).trans' H1.out⟩
  · have HV : Hid (wNum l (px, py) = 0 ∧ wErr l (px, py) = 2) := by
      have e : wErr l (px, py) = 2 := by rw [wErr, if_neg (by omega)]; exact hE
      exact ⟨by rw [wNum, e]; rfl, e⟩
    go_wp2_with fail
    go_ret2
    exact ⟨by rw [HV.out.1, HV.out.2]; rfl, (New.alloc _ _).trans' H1.out⟩

theorem within_any (ao : Option Addr) (cap : Nat) (l : Pts) (px py : Int) (w : World) (h : PolyAt w ao l) (_hc : l.length ≤ cap) (_hs : cap ≤ 100000000000000) :
    Calls Try.prog 27 #[.slice ao l.length cap, .agg #[.int .i64 px, .int .i64 py]] w fun e w' => e = .returned (.tuple #[.int .i64 (wNum l (px, py)), .int .i64 (wErr l (px, py))]) ∧ Hid (New w w') := within_len ao cap l px py w h
end Go.Proofs.Ytgeoffpcmkofkaa
