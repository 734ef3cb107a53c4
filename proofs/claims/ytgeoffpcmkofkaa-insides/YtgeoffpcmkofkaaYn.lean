/- The walk of plumbref's 'Within'. -/
import Derived.Test.YtgeoffpcmkofkaaYl
import Derived.Test.YtgeoffpcmkofkaaYg
namespace Go.Proofs.Ytgeoffpcmkofkaa
open Go.RowKit Fl Dg
set_option maxRecDepth 100000
attribute [local go_sem ↓] Go.wp_at_zero Go.wp_at_succ

/-- Two variables hold points, and one more lies in memory. -/
structure LP (w wx : World) (P b1 b2 : Nat) (ux uy vx vy px py : Int) : Prop where
  new : New w wx
  ge1 : w.heap.size ≤ b1
  ge2 : w.heap.size ≤ b2
  ne : b1 ≠ b2
  q1 : P ≠ b1
  q2 : P ≠ b2
  k1 : wx.heap[b1]? = some (.cells #[.int .i64 ux, .int .i64 uy] 23 (0, 0))
  k2 : wx.heap[b2]? = some (.cells #[.int .i64 vx, .int .i64 vy] 23 (0, 0))
  p0 : wx.cell? ⟨P, 0, none⟩ = some (.int .i64 px)
  p1 : wx.cell? ⟨P, 1, none⟩ = some (.int .i64 py)
theorem LP.next {w wx wy : World} {P b1 b2 : Nat} {ux uy vx vy px py : Int} (h : LP w wx P b1 b2 ux uy vx vy px py) (H : New wx wy) : LP w wy P b1 b2 ux uy vx vy px py :=
  ⟨h.new.trans' H, h.ge1, h.ge2, h.ne, h.q1, h.q2, (H.block _ (Array.getElem?_eq_some_iff.1 h.k1).1 (by simp)).trans h.k1, (H.block _ (Array.getElem?_eq_some_iff.1 h.k2).1 (by simp)).trans h.k2, H.kept h.p0, H.kept h.p1⟩
theorem LP.swap {w wx : World} {P b1 b2 : Nat} {ux uy vx vy px py : Int} (h : LP w wx P b1 b2 ux uy vx vy px py) :
    LP w ((((wx.setCell ⟨b1, 0, none⟩ (.int .i64 vx)).setCell ⟨b1, 1, none⟩ (.int .i64 vy)).setCell ⟨b2, 0, none⟩ (.int .i64 ux)).setCell ⟨b2, 1, none⟩ (.int .i64 uy)) P b1 b2 vx vy ux uy px py := by
  have h1 := h.q1
  have h2 := h.q2
  refine ⟨(((h.new.set h.ge1 _).set h.ge1 _).set h.ge2 _).set h.ge2 _, h.ge1, h.ge2, h.ne, h1, h2, ?_, ?_, ?_, ?_⟩
  · rw [heap_setCell_other _ ⟨b2, 1, none⟩ b1 _ h.ne, heap_setCell_other _ ⟨b2, 0, none⟩ b1 _ h.ne]
    exact pair_set1 (pair_set0 h.k1)
  · refine pair_set1 (pair_set0 (x := .int .i64 vx) (y := .int .i64 vy) ?_)
    rw [heap_setCell_other _ ⟨b1, 1, none⟩ b2 _ h.ne.symm, heap_setCell_other _ ⟨b1, 0, none⟩ b2 _ h.ne.symm]
    exact h.k2
  · rw [set_other h2, set_other h2, set_other h1, set_other h1]; exact h.p0
  · rw [set_other h2, set_other h2, set_other h1, set_other h1]; exact h.p1

set_option maxHeartbeats 3200000 in
theorem refWithin_some (g off cap : Nat) (l : Pts) (px py : Int) (w : World) (h : PtsAt w g off l) (hg : g < w.heap.size) (hn : 0 < l.length) (h40 : l.length ≤ 40) (hok : okB l = true) (hp : CdP (px, py)) :
    Calls Try.prog 29 #[.slice (some ⟨g, off, none⟩) l.length cap, .agg #[.int .i64 px, .int .i64 py]] w fun e w' => e = .returned (.int .i64 (withinN l (px, py))) ∧ Hid (New w w') := by
  have HP : Hid (PtsAt w g off l ∧ g < w.heap.size ∧ okB l = true ∧ CdP (px, py)) := ⟨h, hg, hok, hp⟩
  clear h hok hp
  go_enter Try.func29, Try.ntmps29
  go_wp2_with fail
  go_loopw [5, 6] (fun av iv wr => ∃ k : Nat, iv = .int .i64 k ∧ k ≤ l.length ∧ av = .bool (oddK l (px, py) k) ∧ Hid (New w wr ∧ anyOn l (px, py) k = false ∧ wr.cell? ⟨w.heap.size, 0, none⟩ = some (.int .i64 px) ∧ wr.cell? ⟨w.heap.size, 1, none⟩ = some (.int .i64 py)))
    (fun _ iv _ => l.length - (intOf iv).toNat)
  case atStart => exact ⟨0, rfl, Nat.zero_le _, rfl, New.alloc _ _, rfl, by go_simp, by go_simp⟩
  case round =>
    obtain ⟨k, rfl, hle, rfl, H⟩ := hrel
    by_cases hk : k < l.length
    · obtain ⟨m, hm⟩ : ∃ m, m = (k + 1) % l.length := ⟨_, rfl⟩
      have hml : m < l.length := by rw [hm]; exact Nat.mod_lt _ hn
      obtain ⟨ux, hux⟩ : ∃ x, x = l[k].1 := ⟨_, rfl⟩
      obtain ⟨uy, huy⟩ : ∃ x, x = l[k].2 := ⟨_, rfl⟩
      obtain ⟨vx, hvx⟩ : ∃ x, x = l[m].1 := ⟨_, rfl⟩
      obtain ⟨vy, hvy⟩ : ∃ x, x = l[m].2 := ⟨_, rfl⟩
      have HU : Hid (ptAt l k = (ux, uy) ∧ ptAt l ((k + 1) % l.length) = (vx, vy)) := by
        rw [← hm, Hid, ptAt_eq hk, ptAt_eq hml, hux, huy, hvx, hvy]; exact ⟨rfl, rfl⟩
      have HC : Hid (CdP (ux, uy) ∧ CdP (vx, vy) ∧ CdP (px, py)) := by
        have e1 := ptAt_cd HP.out.2.2.1 hk
        have e2 := ptAt_cd HP.out.2.2.1 hml
        rw [HU.out.1] at e1
        rw [hm, HU.out.2] at e2
        exact ⟨e1, e2, HP.out.2.2.2⟩
      have HK := HP.out.1.kept HP.out.2.1 H.out.1
      have u0 := (HK k hk).1
      have u1 := (HK k hk).2
      have v0 := (HK m hml).1
      have v1 := (HK m hml).2
      rw [← hux] at u0
      rw [← huy] at u1
      rw [← hvx] at v0
      rw [← hvy] at v1
      have HR : Hid (g < wr.heap.size) := Nat.lt_of_lt_of_le HP.out.2.1 H.out.1.size
      have hr : ((k : Int) + 1).tmod (l.length : Int) = (m : Int) := by rw [hm, Int.tmod_eq_emod_of_nonneg (by omega)]; rfl
      have hw1 : IntKind.i64.wrap ((k : Int) + 1) = (k : Int) + 1 := by rw [IntKind.wrap_i64]; omega
      have hw2 : IntKind.i64.wrap (m : Int) = (m : Int) := by rw [IntKind.wrap_i64]; omega
      have hl0 : l ≠ [] := by rintro rfl; simp at hn
      have hl1 : l.length ≠ 0 := by omega
      have hm0 : (0 : Int) ≤ (m : Int) := by omega
      have hm1 : (m : Int) < (l.length : Int) := by omega
      have HM : Hid (m = (k + 1) % l.length) := hm
      clear hux huy hvx hvy HK hm
      have vb0 : ∀ o1, (wr.alloc o1).cell? ⟨g, off + m * 2, none⟩ = some (.int .i64 vx) := fun o1 => (New.alloc wr o1).kept v0
      have vb1 : ∀ o1, (wr.alloc o1).cell? ⟨g, off + m * 2 + 1, none⟩ = some (.int .i64 vy) := fun o1 => (New.alloc wr o1).kept v1
      have pb0 := behind2 H.out.2.2.1
      have pb1 := behind2 H.out.2.2.2
      have HB : Hid (w.heap.size ≤ wr.heap.size ∧ w.heap.size < wr.heap.size) := ⟨H.out.1.size, World.block_lt_of_cell? wr _ H.out.2.2.1⟩
      go_wp2_with fail
      refine (on_any ux uy vx vy px py _ HC.out.1.1 HC.out.1.2 HC.out.2.1.1 HC.out.2.1.2 HC.out.2.2.1 HC.out.2.2.2).mono ?_
      rintro e w2 ⟨rfl, H2⟩
      have L : Hid (LP w w2 w.heap.size wr.heap.size (wr.heap.size + 1) ux uy vx vy px py) :=
        LP.next ⟨(H.out.1.alloc' _).alloc' _, HB.out.1, by have := HB.out.1; omega, by omega, by have := HB.out.2; omega, by have := HB.out.2; omega, ((New.alloc _ _).block _ (by simp) (by simp)).trans (heap_at_end rfl), heap_at_end (by simp), pb0 _ _, pb1 _ _⟩ H2.out
      clear pb0 pb1 H2 u0 u1 v0 v1 vb0 vb1
      have q0 := L.out.p0
      have q1 := L.out.p1
      have d0 := pair_cell0 L.out.k1
      have d1 := pair_cell1 L.out.k1
      have d2 := pair_cell0 L.out.k2
      have d3 := pair_cell1 L.out.k2
      have f1 : ∀ o, w2.frozen? ⟨wr.heap.size, o, none⟩ = false := fun o => pair_free L.out.k1
      have f2 : ∀ o, w2.frozen? ⟨wr.heap.size + 1, o, none⟩ = false := fun o => pair_free L.out.k2
      cases ho : onB (ux, uy) (vx, vy) (px, py) with
      | true =>
        have HV : Hid (withinN l (px, py) = 0) := by
          have : edgeOn l (px, py) k = true := by rw [edgeOn, HU.out.1, HU.out.2]; exact ho
          rw [Hid, withinN, anyOn_up this _ hk]; rfl
        go_wp2_with fail
        go_ret
        exact ⟨by rw [HV.out]; rfl, L.out.new⟩
      | false =>
        have HO : Hid (anyOn l (px, py) (k + 1) = false) := by
          have : edgeOn l (px, py) k = false := by rw [edgeOn, HU.out.1, HU.out.2]; exact ho
          rw [Hid, anyOn, H.out.2.1, this]; rfl
        clear ho
        by_cases hy : vy < uy
        · have HW : Hid (LP w ((((w2.setCell ⟨wr.heap.size, 0, none⟩ (.int .i64 vx)).setCell ⟨wr.heap.size, 1, none⟩ (.int .i64 vy)).setCell ⟨wr.heap.size + 1, 0, none⟩ (.int .i64 ux)).setCell ⟨wr.heap.size + 1, 1, none⟩ (.int .i64 uy)) w.heap.size wr.heap.size (wr.heap.size + 1) vx vy ux uy px py) := L.out.swap
          have s0 := HW.out.p0
          have s1 := HW.out.p1
          have HV : Hid (passB (ux, uy) (vx, vy) (px, py) = (decide (vy ≤ py) && decide (py < uy) && decide (0 < sgn (det vx vy ux uy px py)))) := by
            rw [Hid, passB, lowP, highP, if_pos (show (vx, vy).2 < (ux, uy).2 from hy), if_pos (show (vx, vy).2 < (ux, uy).2 from hy)]; rfl
          by_cases g1 : vy ≤ py
          · by_cases g2 : py < uy
            · go_wp2_with fail
              refine (refSide_any vx vy ux uy px py _ HC.out.2.1.1 HC.out.2.1.2 HC.out.1.1 HC.out.1.2 HC.out.2.2.1 HC.out.2.2.2).mono ?_
              rintro e w3 ⟨rfl, H3⟩
              by_cases g3 : 0 < sgn (det vx vy ux uy px py)
              · have HRR : Hid (passB (ux, uy) (vx, vy) (px, py) = true) := by rw [Hid, HV.out]; simp [g1, g2, g3]
                have hp : edgePass l (px, py) k = true := by rw [edgePass, HU.out.1, HU.out.2]; exact HRR.out
                have HE : Hid (oddK l (px, py) (k + 1) = !oddK l (px, py) k) := by rw [Hid, oddK, hp]; rfl
                clear hp
                go_wp2_with fail
                go_roundw
                case rel => exact ⟨k + 1, by go_num, hk, by rw [HE.out], ⟨(HW.out.next H3.out).new, HO.out, (HW.out.next H3.out).p0, (HW.out.next H3.out).p1⟩⟩
                case measure => simp [intOf]; omega
              · have HRR : Hid (passB (ux, uy) (vx, vy) (px, py) = false) := by rw [Hid, HV.out]; simp [g3]
                have hp : edgePass l (px, py) k = false := by rw [edgePass, HU.out.1, HU.out.2]; exact HRR.out
                have HE : Hid (oddK l (px, py) (k + 1) = oddK l (px, py) k) := by rw [Hid, oddK, hp]; rfl
                clear hp
                go_wp2_with fail
                go_roundw
                case rel => exact ⟨k + 1, by go_num, hk, by rw [HE.out], ⟨(HW.out.next H3.out).new, HO.out, (HW.out.next H3.out).p0, (HW.out.next H3.out).p1⟩⟩
                case measure => simp [intOf]; omega
            · have HRR : Hid (passB (ux, uy) (vx, vy) (px, py) = false) := by rw [Hid, HV.out]; simp [g2]
              have hp : edgePass l (px, py) k = false := by rw [edgePass, HU.out.1, HU.out.2]; exact HRR.out
              have HE : Hid (oddK l (px, py) (k + 1) = oddK l (px, py) k) := by rw [Hid, oddK, hp]; rfl
              clear hp
              go_wp2_with fail
              go_roundw
              case rel => exact ⟨k + 1, by go_num, hk, by rw [HE.out], ⟨HW.out.new, HO.out, HW.out.p0, HW.out.p1⟩⟩
              case measure => simp [intOf]; omega
          · have HRR : Hid (passB (ux, uy) (vx, vy) (px, py) = false) := by rw [Hid, HV.out]; simp [g1]
            have hp : edgePass l (px, py) k = false := by rw [edgePass, HU.out.1, HU.out.2]; exact HRR.out
            have HE : Hid (oddK l (px, py) (k + 1) = oddK l (px, py) k) := by rw [Hid, oddK, hp]; rfl
            clear hp
            go_wp2_with fail
            go_roundw
            case rel => exact ⟨k + 1, by go_num, hk, by rw [HE.out], ⟨HW.out.new, HO.out, HW.out.p0, HW.out.p1⟩⟩
            case measure => simp [intOf]; omega
        · have HV : Hid (passB (ux, uy) (vx, vy) (px, py) = (decide (uy ≤ py) && decide (py < vy) && decide (0 < sgn (det ux uy vx vy px py)))) := by
            rw [Hid, passB, lowP, highP, if_neg (show ¬ (vx, vy).2 < (ux, uy).2 from hy), if_neg (show ¬ (vx, vy).2 < (ux, uy).2 from hy)]; rfl
          by_cases g1 : uy ≤ py
          · by_cases g2 : py < vy
            · go_wp2_with fail
              refine (refSide_any ux uy vx vy px py _ HC.out.1.1 HC.out.1.2 HC.out.2.1.1 HC.out.2.1.2 HC.out.2.2.1 HC.out.2.2.2).mono ?_
              rintro e w3 ⟨rfl, H3⟩
              by_cases g3 : 0 < sgn (det ux uy vx vy px py)
              · have HRR : Hid (passB (ux, uy) (vx, vy) (px, py) = true) := by rw [Hid, HV.out]; simp [g1, g2, g3]
                have hp : edgePass l (px, py) k = true := by rw [edgePass, HU.out.1, HU.out.2]; exact HRR.out
                have HE : Hid (oddK l (px, py) (k + 1) = !oddK l (px, py) k) := by rw [Hid, oddK, hp]; rfl
                clear hp
                go_wp2_with fail
                go_roundw
                case rel => exact ⟨k + 1, by go_num, hk, by rw [HE.out], ⟨(L.out.next H3.out).new, HO.out, (L.out.next H3.out).p0, (L.out.next H3.out).p1⟩⟩
                case measure => simp [intOf]; omega
              · have HRR : Hid (passB (ux, uy) (vx, vy) (px, py) = false) := by rw [Hid, HV.out]; simp [g3]
                have hp : edgePass l (px, py) k = false := by rw [edgePass, HU.out.1, HU.out.2]; exact HRR.out
                have HE : Hid (oddK l (px, py) (k + 1) = oddK l (px, py) k) := by rw [Hid, oddK, hp]; rfl
                clear hp
                go_wp2_with fail
                go_roundw
                case rel => exact ⟨k + 1, by go_num, hk, by rw [HE.out], ⟨(L.out.next H3.out).new, HO.out, (L.out.next H3.out).p0, (L.out.next H3.out).p1⟩⟩
                case measure => simp [intOf]; omega
            · have HRR : Hid (passB (ux, uy) (vx, vy) (px, py) = false) := by rw [Hid, HV.out]; simp [g2]
              have hp : edgePass l (px, py) k = false := by rw [edgePass, HU.out.1, HU.out.2]; exact HRR.out
              have HE : Hid (oddK l (px, py) (k + 1) = oddK l (px, py) k) := by rw [Hid, oddK, hp]; rfl
              clear hp
              go_wp2_with fail
              go_roundw
              case rel => exact ⟨k + 1, by go_num, hk, by rw [HE.out], ⟨L.out.new, HO.out, L.out.p0, L.out.p1⟩⟩
              case measure => simp [intOf]; omega
          · have HRR : Hid (passB (ux, uy) (vx, vy) (px, py) = false) := by rw [Hid, HV.out]; simp [g1]
            have hp : edgePass l (px, py) k = false := by rw [edgePass, HU.out.1, HU.out.2]; exact HRR.out
            have HE : Hid (oddK l (px, py) (k + 1) = oddK l (px, py) k) := by rw [Hid, oddK, hp]; rfl
            clear hp
            go_wp2_with fail
            go_roundw
            case rel => exact ⟨k + 1, by go_num, hk, by rw [HE.out], ⟨L.out.new, HO.out, L.out.p0, L.out.p1⟩⟩
            case measure => simp [intOf]; omega
    · have hkk : k = l.length := by omega
      subst hkk
      cases hb : oddK l (px, py) l.length with
      | true =>
        have HV : Hid (withinN l (px, py) = 1) := by rw [Hid, withinN, H.out.2.1, hb]; rfl
        clear hb
        go_wp2_with fail
        go_ret
        exact ⟨by rw [HV.out]; rfl, H.out.1⟩
      | false =>
        have HV : Hid (withinN l (px, py) = -1) := by rw [Hid, withinN, H.out.2.1, hb]; rfl
        clear hb
        go_wp2_with fail
        go_ret
        exact ⟨by rw [HV.out]; rfl, H.out.1⟩

set_option maxHeartbeats 800000 in
theorem refWithin_none (ao : Option Addr) (cap : Nat) (px py : Int) (w : World) :
    Calls Try.prog 29 #[.slice ao 0 cap, .agg #[.int .i64 px, .int .i64 py]] w fun e w' => e = .returned (.int .i64 (withinN [] (px, py))) ∧ Hid (New w w') := by
  go_enter Try.func29, Try.ntmps29
  go_wp2_with fail
  go_loop [5, 6] (fun av iv => av = .bool false ∧ iv = .int .i64 0) (fun _ _ => 0)
  case atStart => exact ⟨rfl, rfl⟩
  case round =>
    obtain ⟨rfl, rfl⟩ := hrel
    go_wp2_with fail
    go_ret
    exact ⟨rfl, New.alloc _ _⟩

theorem refWithin_any (ao : Option Addr) (cap : Nat) (l : Pts) (px py : Int) (w : World) (h : PolyAt w ao l) (h40 : l.length ≤ 40) (hok : okB l = true) (hp : CdP (px, py)) :
    Calls Try.prog 29 #[.slice ao l.length cap, .agg #[.int .i64 px, .int .i64 py]] w fun e w' => e = .returned (.int .i64 (withinN l (px, py))) ∧ Hid (New w w') := by
  match l, h, h40, hok with
  | [], _, _, _ => exact refWithin_none ao cap px py w
  | q :: l, h, h40, hok =>
    obtain ⟨g, off, rfl, h1, h2⟩ := h (by simp)
    exact refWithin_some g off cap (q :: l) px py w h1 h2 (by simp) h40 hok hp

end Go.Proofs.Ytgeoffpcmkofkaa
