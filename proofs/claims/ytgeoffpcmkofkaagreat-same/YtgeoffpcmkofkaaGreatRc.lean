/- The walk of 'joinLine' of package mesh. -/
import Derived.Test.YtgeoffpcmkofkaaGreatRb
namespace Go.Proofs.YtgeoffpcmkofkaaGreat
open Go.RowKit Go.Maps Fl
set_option maxRecDepth 100000
attribute [local go_sem ↓] Go.wp_at_zero Go.wp_at_succ

open Classical in
noncomputable def joinF (p : Pt) (m : Ms) (a b : Pt) : Ms := if D a b p < 0 then addM m b a p else addM m a b p
noncomputable def joinN (line : Pts) (p : Pt) (m : Ms) : Nat → Ms
  | 0 => m
  | k + 1 => joinF p (joinN line p m k) (ptAt line k) (ptAt line (k + 1))

theorem twoA' (W : World) (o o' : Obj) : ((W.alloc o).alloc o').heap[W.heap.size]? = some o := ((New.alloc _ o').block _ (by simp) (by simp)).trans (_root_.Go.heap_alloc_new W o)
theorem twoB' (W : World) (o o' : Obj) : ((W.alloc o).alloc o').heap[W.heap.size + 1]? = some o' := by
  have := _root_.Go.heap_alloc_new (W.alloc o) o'
  simpa using this
/-- Where the loop stands. -/
structure JL (w wr : World) (b n : Nat) (line : Pts) (p : Pt) (m : Ms) (k : Nat) : Prop where
  map : MapE wr b (n + 3 * k) (joinN line p m k)
  gr : w.grownBy wr (some b)
  box : BoxP wr w.heap.size p
theorem JL.next {w wr wx : World} {b n : Nat} {line : Pts} {p : Pt} {m m' : Ms} {k : Nat} (h : JL w wr b n line p m k) (e : joinN line p m (k + 1) = m') (h1 : MapE wx b (n + 3 * k + 3) m') (h2 : wr.grownBy wx (some b)) (hb : b < w.heap.size) : JL w wx b n line p m (k + 1) :=
  ⟨by rw [e]; exact h1, h.gr.trans h2, h.box.grown h2 (by simp; omega)⟩

set_option maxHeartbeats 800000 in
theorem joinLine_any (b n g cap N : Nat) (line : Pts) (p : Pt) (m : Ms) (w : World) (HN : Hid (line.length = N)) (hm : MapE w b n m) (hn : n + 3 * N < maxLen) (hp : PtsAt w g 0 line) (hg : g < w.heap.size) (hgb : g ≠ b) (hl : N ≤ 1000000) (h1 : 2 ≤ N) (hcap : N ≤ cap) (hc : ∀ x ∈ line, CdP x) (hcp : CdP p) :
    Calls Tryz.prog 37 #[.map (some b), .slice (some ⟨g, 0, none⟩) N cap, .agg #[.int .i64 p.1, .int .i64 p.2]] w fun e w' => e = .returned (.tuple #[]) ∧ Hid (MapE w' b (n + 3 * (N - 1)) (joinN line p m (N - 1)) ∧ w.grownBy w' (some b)) := by
  have HP : Hid (PtsAt w g 0 line ∧ g < w.heap.size ∧ g ≠ b ∧ (∀ x ∈ line, CdP x) ∧ CdP p) := ⟨hp, hg, hgb, hc, hcp⟩
  have H0 : Hid (MapE w b n m ∧ b < w.heap.size) := ⟨hm, hm.lt⟩
  clear hm hp hg hgb hc hcp
  have i1 : (1 : Int) ≤ (N : Int) := by omega
  have i2 : (N : Int) ≤ (cap : Int) := by omega
  have i3 : 0 < N := by omega
  have i4 : 1 ≤ cap := by omega
  have i5 : cap ≠ 1 := by omega
  go_enter Tryz.func37, Tryz.ntmps37
  go_wp2_with fail
  go_loopw [12] (fun v wr => ∃ k : Nat, v = .int .i64 (k : Int) ∧ k ≤ N - 1 ∧ Hid (JL w wr b n line p m k)) (fun v _ => N - 1 - (intOf v).toNat)
  case atStart => exact ⟨0, rfl, Nat.zero_le _, H0.out.1.new (New.alloc _ _), (New.alloc _ _).but (some b), ⟨by go_simp, by go_simp⟩⟩
  case round =>
    obtain ⟨k, rfl, hk, H⟩ := hrel
    rcases Nat.lt_or_ge k (N - 1) with hk' | hk'
    · have hN := HN.out
      have HA := (HP.out.1 k (by omega))
      have HB := (HP.out.1 (k + 1) (by omega))
      rw [Nat.zero_add] at HA HB
      have a0 := grown_cell H.out.gr (by simpa using HP.out.2.2.1) HA.1
      have a1 := grown_cell H.out.gr (by simpa using HP.out.2.2.1) HA.2
      have b0 := grown_cell H.out.gr (by simpa using HP.out.2.2.1) HB.1
      have b1 := grown_cell H.out.gr (by simpa using HP.out.2.2.1) HB.2
      rw [← ptAt_eq (by omega)] at a0 a1 b0 b1
      have CD : Hid (CdP (ptAt line k) ∧ CdP (ptAt line (k + 1)) ∧ CdP p) := ⟨by rw [ptAt_eq (by omega)]; exact HP.out.2.2.2.1 _ (List.getElem_mem _), by rw [ptAt_eq (by omega)]; exact HP.out.2.2.2.1 _ (List.getElem_mem _), HP.out.2.2.2.2⟩
      obtain ⟨x, hx⟩ : ∃ x, x = ptAt line k := ⟨_, rfl⟩
      obtain ⟨y, hy⟩ : ∃ y, y = ptAt line (k + 1) := ⟨_, rfl⟩
      rw [← hx] at a0 a1
      rw [← hy] at b0 b1
      rw [← hx, ← hy] at CD
      have HE : Hid (joinN line p m (k + 1) = joinF p (joinN line p m k) x y) := by rw [hx, hy]; rfl
      have e2 : (k + 1) * 2 = 2 + k * 2 := by omega
      rw [e2] at b0 b1
      have hlt : g < wr.heap.size := World.block_lt_of_cell? wr _ a0
      have j0 : (0 : Int) ≤ (k : Int) := by omega
      have j1 : (k : Int) < (N : Int) := by omega
      have j2 : (k : Int) < ((N - 1 : Nat) : Int) := by omega
      have j3 : k < N := by omega
      have hw1 : IntKind.i64.wrap ((k : Int) + 1) = (k : Int) + 1 := by rw [IntKind.wrap_i64]; omega
      obtain ⟨p0, p1⟩ := H.out.box
      have hlp : w.heap.size < wr.heap.size := World.block_lt_of_cell? wr _ p0
      have hbw := H0.out.2
      clear hx hy hN e2 HA HB
      by_cases hd : D x y p < 0
      · have HM : Hid (joinN line p m (k + 1) = addM (joinN line p m k) y x p) := by rw [Hid, HE.out, joinF, if_pos hd]
        have hs : sgn (det x.1 x.2 y.1 y.2 p.1 p.2) < 0 := sgn_neg'.2 hd
        go_wp2_with fail
        refine (of_any x.1 x.2 y.1 y.2 p.1 p.2 _ CD.out.1.1 CD.out.1.2 CD.out.2.1.1 CD.out.2.1.2 CD.out.2.2.1 CD.out.2.2.2).mono ?_
        rintro e w1 ⟨rfl, H1⟩
        have N1 : Hid (New wr w1) := (((New.refl wr).alloc' _).alloc' _).trans' H1.out
        have k1 : w1.heap[wr.heap.size]? = some (.cells #[.int .i64 y.1, .int .i64 y.2] 36 (0, 0)) := (H1.out.block _ (by simp; omega) (by simp)).trans (twoA' wr _ _)
        have k2 : w1.heap[wr.heap.size + 1]? = some (.cells #[.int .i64 x.1, .int .i64 x.2] 36 (0, 0)) := (H1.out.block _ (by simp) (by simp)).trans (twoB' wr _ _)
        have q4 : w1.cell? ⟨w.heap.size, 0, none⟩ = some (.int .i64 p.1) := N1.out.kept p0
        have q5 : w1.cell? ⟨w.heap.size, 1, none⟩ = some (.int .i64 p.2) := N1.out.kept p1
        have q0 := pair_cell0 k1
        have q1 := pair_cell1 k1
        have q2 := pair_cell0 k2
        have q3 := pair_cell1 k2
        have f1 := fun o => pair_free (o := o) k1
        have f2 := fun o => pair_free (o := o) k2
        have n1 : w.heap.size ≠ wr.heap.size := by omega
        have n2 : w.heap.size ≠ wr.heap.size + 1 := by omega
        have HK : Hid (w1.heap[wr.heap.size]? = some (.cells #[.int .i64 y.1, .int .i64 y.2] 36 (0, 0)) ∧ w1.heap[wr.heap.size + 1]? = some (.cells #[.int .i64 x.1, .int .i64 x.2] 36 (0, 0))) := ⟨k1, k2⟩
        clear H1 a0 a1 b0 b1 p0 p1 k1 k2
        go_wp2_with fail
        have N2 : Hid (New wr ((((w1.setCell ⟨wr.heap.size + 1, 0, none⟩ (.int .i64 y.1)).setCell ⟨wr.heap.size + 1, 1, none⟩ (.int .i64 y.2)).setCell ⟨wr.heap.size, 0, none⟩ (.int .i64 x.1)).setCell ⟨wr.heap.size, 1, none⟩ (.int .i64 x.2))) := (((N1.out.set (by omega) _).set (by omega) _).set (by omega) _).set (by omega) _
        refine (add_any b (n + 3 * k) _ y x p _ (H.out.map.new N2.out) (by omega) CD.out.2.1 CD.out.1 CD.out.2.2).mono ?_
        rintro e w2 ⟨rfl, A2⟩
        have H2 : Hid (JL w w2 b n line p m (k + 1)) := H.out.next HM.out A2.out.1 ((N2.out.but (some b)).trans A2.out.2) hbw
        clear A2 q0 q1 q2 q3 q4 q5 f1 f2 N2
        go_wp2_with fail
        go_roundw
        case rel => exact ⟨k + 1, by go_num, by omega, H2⟩
        case measure => simp [intOf]; omega
      · have HM : Hid (joinN line p m (k + 1) = addM (joinN line p m k) x y p) := by rw [Hid, HE.out, joinF, if_neg hd]
        have hs : ¬sgn (det x.1 x.2 y.1 y.2 p.1 p.2) < 0 := fun c => hd (sgn_neg'.1 c)
        go_wp2_with fail
        refine (of_any x.1 x.2 y.1 y.2 p.1 p.2 _ CD.out.1.1 CD.out.1.2 CD.out.2.1.1 CD.out.2.1.2 CD.out.2.2.1 CD.out.2.2.2).mono ?_
        rintro e w1 ⟨rfl, H1⟩
        have N1 : Hid (New wr w1) := (((New.refl wr).alloc' _).alloc' _).trans' H1.out
        have k1 : w1.heap[wr.heap.size]? = some (.cells #[.int .i64 y.1, .int .i64 y.2] 36 (0, 0)) := (H1.out.block _ (by simp; omega) (by simp)).trans (twoA' wr _ _)
        have k2 : w1.heap[wr.heap.size + 1]? = some (.cells #[.int .i64 x.1, .int .i64 x.2] 36 (0, 0)) := (H1.out.block _ (by simp) (by simp)).trans (twoB' wr _ _)
        have q4 : w1.cell? ⟨w.heap.size, 0, none⟩ = some (.int .i64 p.1) := N1.out.kept p0
        have q5 : w1.cell? ⟨w.heap.size, 1, none⟩ = some (.int .i64 p.2) := N1.out.kept p1
        have q0 := pair_cell0 k1
        have q1 := pair_cell1 k1
        have q2 := pair_cell0 k2
        have q3 := pair_cell1 k2
        have f1 := fun o => pair_free (o := o) k1
        have f2 := fun o => pair_free (o := o) k2
        have n1 : w.heap.size ≠ wr.heap.size := by omega
        have n2 : w.heap.size ≠ wr.heap.size + 1 := by omega
        have HK : Hid (w1.heap[wr.heap.size]? = some (.cells #[.int .i64 y.1, .int .i64 y.2] 36 (0, 0)) ∧ w1.heap[wr.heap.size + 1]? = some (.cells #[.int .i64 x.1, .int .i64 x.2] 36 (0, 0))) := ⟨k1, k2⟩
        clear H1 a0 a1 b0 b1 p0 p1 k1 k2
        go_wp2_with fail
        refine (add_any b (n + 3 * k) _ x y p _ (H.out.map.new N1.out) (by omega) CD.out.1 CD.out.2.1 CD.out.2.2).mono ?_
        rintro e w2 ⟨rfl, A2⟩
        have H2 : Hid (JL w w2 b n line p m (k + 1)) := H.out.next HM.out A2.out.1 ((N1.out.but (some b)).trans A2.out.2) hbw
        clear A2 q0 q1 q2 q3 q4 q5 f1 f2
        go_wp2_with fail
        go_roundw
        case rel => exact ⟨k + 1, by go_num, by omega, H2⟩
        case measure => simp [intOf]; omega
    · have e : k = N - 1 := by omega
      subst e
      go_wp2_with fail
      go_end0
      exact ⟨rfl, H.out.map, H.out.gr⟩

end Go.Proofs.YtgeoffpcmkofkaaGreat
