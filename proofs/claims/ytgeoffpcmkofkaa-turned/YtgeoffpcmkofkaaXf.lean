/- Sides and circle sides of points that change places, are moved, mirrored or turned. -/
import Derived.Test.YtgeoffpcmkofkaaXe
namespace Go.Proofs.Ytgeoffpcmkofkaa
open Go.RowKit Fl
set_option maxRecDepth 100000

theorem sgn_neg (x : Int) : sgn (-x) = -sgn x := by
  unfold sgn
  rcases Int.lt_trichotomy x 0 with h | h | h
  · rw [if_neg (by omega), if_neg (by omega), if_pos h]; rfl
  · subst h; rfl
  · rw [if_pos (by omega), if_neg (by omega), if_neg (by omega)]

theorem sgn_le (x : Int) : -1 ≤ sgn x ∧ sgn x ≤ 1 := by
  unfold sgn
  split
  · omega
  · split <;> omega

theorem okB3 {ax ay bx by' cx cy : Int} (h1 : Cd ax) (h2 : Cd ay) (h3 : Cd bx) (h4 : Cd by') (h5 : Cd cx) (h6 : Cd cy) : okB [(ax, ay), (bx, by'), (cx, cy)] = true := by
  simp [okB, cdB_iff.2 h1, cdB_iff.2 h2, cdB_iff.2 h3, cdB_iff.2 h4, cdB_iff.2 h5, cdB_iff.2 h6]
theorem okB4 {ax ay bx by' cx cy dx dy : Int} (h1 : Cd ax) (h2 : Cd ay) (h3 : Cd bx) (h4 : Cd by') (h5 : Cd cx) (h6 : Cd cy) (h7 : Cd dx) (h8 : Cd dy) : okB [(ax, ay), (bx, by'), (cx, cy), (dx, dy)] = true := by
  simp [okB, cdB_iff.2 h1, cdB_iff.2 h2, cdB_iff.2 h3, cdB_iff.2 h4, cdB_iff.2 h5, cdB_iff.2 h6, cdB_iff.2 h7, cdB_iff.2 h8]

theorem Cd.neg {x : Int} (h : Cd x) : Cd (-x) := by unfold Cd at *; omega
theorem Cd.half {x : Int} (h : Cd x) : Cd (x.tdiv 2) := by have := tdiv2 h; unfold Cd; omega
theorem Cd.halves {x y : Int} (h : Cd x) (k : Cd y) : Cd (x.tdiv 2 + y.tdiv 2) := by have := tdiv2 h; have := tdiv2 k; unfold Cd; omega

/-- A call that makes nothing but new memory answers this. -/
abbrev To (f : Nat) (args : Array Value) (r : Value) : Prop := ∀ W : World, Calls Try.prog f args W fun e w' => e = .returned r ∧ Hid (New W w')

theorem to_side {ax ay bx by' cx cy r : Int} (h : sgn (det ax ay bx by' cx cy) = r) (h1 : Cd ax) (h2 : Cd ay) (h3 : Cd bx) (h4 : Cd by') (h5 : Cd cx) (h6 : Cd cy) :
    To 18 #[.agg #[.int .i64 ax, .int .i64 ay], .agg #[.int .i64 bx, .int .i64 by'], .agg #[.int .i64 cx, .int .i64 cy]] (.int .i64 r) := by
  subst h
  exact fun W => kside_any _ _ _ _ _ _ W (okB3 h1 h2 h3 h4 h5 h6)
theorem to_circle {ax ay bx by' cx cy dx dy r : Int} (h : sgn (cdet ax ay bx by' cx cy dx dy) = r) (h1 : Cd ax) (h2 : Cd ay) (h3 : Cd bx) (h4 : Cd by') (h5 : Cd cx) (h6 : Cd cy) (h7 : Cd dx) (h8 : Cd dy) :
    To 19 #[.agg #[.int .i64 ax, .int .i64 ay], .agg #[.int .i64 bx, .int .i64 by'], .agg #[.int .i64 cx, .int .i64 cy], .agg #[.int .i64 dx, .int .i64 dy]] (.int .i64 r) := by
  subst h
  exact fun W => kcircle_any _ _ _ _ _ _ _ _ W (okB4 h1 h2 h3 h4 h5 h6 h7 h8)

/-- What side and circle answer in 'Turned'. -/
structure Ks (ax ay bx by' cx cy dx dy vx vy s t u q : Int) : Prop where
  bs : -1 ≤ s ∧ s ≤ 1
  bt : -1 ≤ t ∧ t ≤ 1
  s1 : To 18 #[.agg #[.int .i64 ax, .int .i64 ay], .agg #[.int .i64 bx, .int .i64 by'], .agg #[.int .i64 cx, .int .i64 cy]] (.int .i64 s)
  s2 : To 18 #[.agg #[.int .i64 bx, .int .i64 by'], .agg #[.int .i64 cx, .int .i64 cy], .agg #[.int .i64 ax, .int .i64 ay]] (.int .i64 s)
  s3 : To 18 #[.agg #[.int .i64 cx, .int .i64 cy], .agg #[.int .i64 ax, .int .i64 ay], .agg #[.int .i64 bx, .int .i64 by']] (.int .i64 s)
  s4 : To 18 #[.agg #[.int .i64 bx, .int .i64 by'], .agg #[.int .i64 ax, .int .i64 ay], .agg #[.int .i64 cx, .int .i64 cy]] (.int .i64 (-s))
  s5 : To 18 #[.agg #[.int .i64 ax, .int .i64 ay], .agg #[.int .i64 cx, .int .i64 cy], .agg #[.int .i64 bx, .int .i64 by']] (.int .i64 (-s))
  t1 : To 19 #[.agg #[.int .i64 ax, .int .i64 ay], .agg #[.int .i64 bx, .int .i64 by'], .agg #[.int .i64 cx, .int .i64 cy], .agg #[.int .i64 dx, .int .i64 dy]] (.int .i64 t)
  t2 : To 19 #[.agg #[.int .i64 bx, .int .i64 by'], .agg #[.int .i64 cx, .int .i64 cy], .agg #[.int .i64 ax, .int .i64 ay], .agg #[.int .i64 dx, .int .i64 dy]] (.int .i64 t)
  t3 : To 19 #[.agg #[.int .i64 bx, .int .i64 by'], .agg #[.int .i64 ax, .int .i64 ay], .agg #[.int .i64 cx, .int .i64 cy], .agg #[.int .i64 dx, .int .i64 dy]] (.int .i64 (-t))
  t4 : To 19 #[.agg #[.int .i64 ax, .int .i64 ay], .agg #[.int .i64 bx, .int .i64 by'], .agg #[.int .i64 dx, .int .i64 dy], .agg #[.int .i64 cx, .int .i64 cy]] (.int .i64 (-t))
  t5 : To 19 #[.agg #[.int .i64 dx, .int .i64 dy], .agg #[.int .i64 cx, .int .i64 cy], .agg #[.int .i64 bx, .int .i64 by'], .agg #[.int .i64 ax, .int .i64 ay]] (.int .i64 t)
  sm : To 18 #[.agg #[.int .i64 (-ax), .int .i64 ay], .agg #[.int .i64 (-bx), .int .i64 by'], .agg #[.int .i64 (-cx), .int .i64 cy]] (.int .i64 (-s))
  st : To 18 #[.agg #[.int .i64 ay, .int .i64 ax], .agg #[.int .i64 by', .int .i64 bx], .agg #[.int .i64 cy, .int .i64 cx]] (.int .i64 (-s))
  tm : To 19 #[.agg #[.int .i64 (-ax), .int .i64 ay], .agg #[.int .i64 (-bx), .int .i64 by'], .agg #[.int .i64 (-cx), .int .i64 cy], .agg #[.int .i64 (-dx), .int .i64 dy]] (.int .i64 (-t))
  tt : To 19 #[.agg #[.int .i64 ay, .int .i64 ax], .agg #[.int .i64 by', .int .i64 bx], .agg #[.int .i64 cy, .int .i64 cx], .agg #[.int .i64 dy, .int .i64 dx]] (.int .i64 (-t))
  su : To 18 #[.agg #[.int .i64 (ax.tdiv 2 + vx.tdiv 2), .int .i64 (ay.tdiv 2 + vy.tdiv 2)], .agg #[.int .i64 (bx.tdiv 2 + vx.tdiv 2), .int .i64 (by'.tdiv 2 + vy.tdiv 2)], .agg #[.int .i64 (cx.tdiv 2 + vx.tdiv 2), .int .i64 (cy.tdiv 2 + vy.tdiv 2)]] (.int .i64 u)
  sh : To 18 #[.agg #[.int .i64 (ax.tdiv 2), .int .i64 (ay.tdiv 2)], .agg #[.int .i64 (bx.tdiv 2), .int .i64 (by'.tdiv 2)], .agg #[.int .i64 (cx.tdiv 2), .int .i64 (cy.tdiv 2)]] (.int .i64 u)
  tu : To 19 #[.agg #[.int .i64 (ax.tdiv 2 + vx.tdiv 2), .int .i64 (ay.tdiv 2 + vy.tdiv 2)], .agg #[.int .i64 (bx.tdiv 2 + vx.tdiv 2), .int .i64 (by'.tdiv 2 + vy.tdiv 2)], .agg #[.int .i64 (cx.tdiv 2 + vx.tdiv 2), .int .i64 (cy.tdiv 2 + vy.tdiv 2)], .agg #[.int .i64 (dx.tdiv 2 + vx.tdiv 2), .int .i64 (dy.tdiv 2 + vy.tdiv 2)]] (.int .i64 q)
  th : To 19 #[.agg #[.int .i64 (ax.tdiv 2), .int .i64 (ay.tdiv 2)], .agg #[.int .i64 (bx.tdiv 2), .int .i64 (by'.tdiv 2)], .agg #[.int .i64 (cx.tdiv 2), .int .i64 (cy.tdiv 2)], .agg #[.int .i64 (dx.tdiv 2), .int .i64 (dy.tdiv 2)]] (.int .i64 q)

theorem eq_s1 (ax ay bx by' cx cy : Int) : det ax ay bx by' cx cy = det ax ay bx by' cx cy := rfl
theorem eq_s2 (ax ay bx by' cx cy : Int) : det bx by' cx cy ax ay = det ax ay bx by' cx cy := by unfold det; grind
theorem eq_s3 (ax ay bx by' cx cy : Int) : det cx cy ax ay bx by' = det ax ay bx by' cx cy := by unfold det; grind
theorem eq_s4 (ax ay bx by' cx cy : Int) : det bx by' ax ay cx cy = -(det ax ay bx by' cx cy) := by unfold det; grind
theorem eq_s5 (ax ay bx by' cx cy : Int) : det ax ay cx cy bx by' = -(det ax ay bx by' cx cy) := by unfold det; grind
theorem eq_t1 (ax ay bx by' cx cy dx dy : Int) : cdet ax ay bx by' cx cy dx dy = cdet ax ay bx by' cx cy dx dy := rfl
theorem eq_t2 (ax ay bx by' cx cy dx dy : Int) : cdet bx by' cx cy ax ay dx dy = cdet ax ay bx by' cx cy dx dy := by unfold cdet; grind
theorem eq_t3 (ax ay bx by' cx cy dx dy : Int) : cdet bx by' ax ay cx cy dx dy = -(cdet ax ay bx by' cx cy dx dy) := by unfold cdet; grind
theorem eq_t4 (ax ay bx by' cx cy dx dy : Int) : cdet ax ay bx by' dx dy cx cy = -(cdet ax ay bx by' cx cy dx dy) := by unfold cdet; grind
theorem eq_t5 (ax ay bx by' cx cy dx dy : Int) : cdet dx dy cx cy bx by' ax ay = cdet ax ay bx by' cx cy dx dy := by unfold cdet; grind
theorem eq_sm (ax ay bx by' cx cy : Int) : det (-ax) ay (-bx) by' (-cx) cy = -(det ax ay bx by' cx cy) := by unfold det; grind
theorem eq_st (ax ay bx by' cx cy : Int) : det ay ax by' bx cy cx = -(det ax ay bx by' cx cy) := by unfold det; grind
theorem eq_tm (ax ay bx by' cx cy dx dy : Int) : cdet (-ax) ay (-bx) by' (-cx) cy (-dx) dy = -(cdet ax ay bx by' cx cy dx dy) := by unfold cdet; grind
theorem eq_tt (ax ay bx by' cx cy dx dy : Int) : cdet ay ax by' bx cy cx dy dx = -(cdet ax ay bx by' cx cy dx dy) := by unfold cdet; grind
theorem eq_su (ax ay bx by' cx cy vx vy : Int) : det (ax.tdiv 2 + vx.tdiv 2) (ay.tdiv 2 + vy.tdiv 2) (bx.tdiv 2 + vx.tdiv 2) (by'.tdiv 2 + vy.tdiv 2) (cx.tdiv 2 + vx.tdiv 2) (cy.tdiv 2 + vy.tdiv 2) = det (ax.tdiv 2) (ay.tdiv 2) (bx.tdiv 2) (by'.tdiv 2) (cx.tdiv 2) (cy.tdiv 2) := by unfold det; grind
theorem eq_sh (ax ay bx by' cx cy : Int) : det (ax.tdiv 2) (ay.tdiv 2) (bx.tdiv 2) (by'.tdiv 2) (cx.tdiv 2) (cy.tdiv 2) = det (ax.tdiv 2) (ay.tdiv 2) (bx.tdiv 2) (by'.tdiv 2) (cx.tdiv 2) (cy.tdiv 2) := rfl
theorem eq_tu (ax ay bx by' cx cy dx dy vx vy : Int) : cdet (ax.tdiv 2 + vx.tdiv 2) (ay.tdiv 2 + vy.tdiv 2) (bx.tdiv 2 + vx.tdiv 2) (by'.tdiv 2 + vy.tdiv 2) (cx.tdiv 2 + vx.tdiv 2) (cy.tdiv 2 + vy.tdiv 2) (dx.tdiv 2 + vx.tdiv 2) (dy.tdiv 2 + vy.tdiv 2) = cdet (ax.tdiv 2) (ay.tdiv 2) (bx.tdiv 2) (by'.tdiv 2) (cx.tdiv 2) (cy.tdiv 2) (dx.tdiv 2) (dy.tdiv 2) := by unfold cdet; simp only [show ∀ x y z : Int, x + z - (y + z) = x - y from fun x y z => by omega]
theorem eq_th (ax ay bx by' cx cy dx dy : Int) : cdet (ax.tdiv 2) (ay.tdiv 2) (bx.tdiv 2) (by'.tdiv 2) (cx.tdiv 2) (cy.tdiv 2) (dx.tdiv 2) (dy.tdiv 2) = cdet (ax.tdiv 2) (ay.tdiv 2) (bx.tdiv 2) (by'.tdiv 2) (cx.tdiv 2) (cy.tdiv 2) (dx.tdiv 2) (dy.tdiv 2) := rfl

theorem ks (ax ay bx by' cx cy dx dy vx vy : Int) (h_ax : Cd ax) (h_ay : Cd ay) (h_bx : Cd bx) (h_by : Cd by') (h_cx : Cd cx) (h_cy : Cd cy) (h_dx : Cd dx) (h_dy : Cd dy) (h_vx : Cd vx) (h_vy : Cd vy) : Ks ax ay bx by' cx cy dx dy vx vy (sgn (det ax ay bx by' cx cy)) (sgn (cdet ax ay bx by' cx cy dx dy)) (sgn (det (ax.tdiv 2) (ay.tdiv 2) (bx.tdiv 2) (by'.tdiv 2) (cx.tdiv 2) (cy.tdiv 2))) (sgn (cdet (ax.tdiv 2) (ay.tdiv 2) (bx.tdiv 2) (by'.tdiv 2) (cx.tdiv 2) (cy.tdiv 2) (dx.tdiv 2) (dy.tdiv 2))) where
  bs := sgn_le _
  bt := sgn_le _
  s1 := to_side (by rw [eq_s1]) h_ax h_ay h_bx h_by h_cx h_cy
  s2 := to_side (by rw [eq_s2]) h_bx h_by h_cx h_cy h_ax h_ay
  s3 := to_side (by rw [eq_s3]) h_cx h_cy h_ax h_ay h_bx h_by
  s4 := to_side (by rw [eq_s4]; exact sgn_neg _) h_bx h_by h_ax h_ay h_cx h_cy
  s5 := to_side (by rw [eq_s5]; exact sgn_neg _) h_ax h_ay h_cx h_cy h_bx h_by
  t1 := to_circle (by rw [eq_t1]) h_ax h_ay h_bx h_by h_cx h_cy h_dx h_dy
  t2 := to_circle (by rw [eq_t2]) h_bx h_by h_cx h_cy h_ax h_ay h_dx h_dy
  t3 := to_circle (by rw [eq_t3]; exact sgn_neg _) h_bx h_by h_ax h_ay h_cx h_cy h_dx h_dy
  t4 := to_circle (by rw [eq_t4]; exact sgn_neg _) h_ax h_ay h_bx h_by h_dx h_dy h_cx h_cy
  t5 := to_circle (by rw [eq_t5]) h_dx h_dy h_cx h_cy h_bx h_by h_ax h_ay
  sm := to_side (by rw [eq_sm]; exact sgn_neg _) h_ax.neg h_ay h_bx.neg h_by h_cx.neg h_cy
  st := to_side (by rw [eq_st]; exact sgn_neg _) h_ay h_ax h_by h_bx h_cy h_cx
  tm := to_circle (by rw [eq_tm]; exact sgn_neg _) h_ax.neg h_ay h_bx.neg h_by h_cx.neg h_cy h_dx.neg h_dy
  tt := to_circle (by rw [eq_tt]; exact sgn_neg _) h_ay h_ax h_by h_bx h_cy h_cx h_dy h_dx
  su := to_side (by rw [eq_su]) (h_ax.halves h_vx) (h_ay.halves h_vy) (h_bx.halves h_vx) (h_by.halves h_vy) (h_cx.halves h_vx) (h_cy.halves h_vy)
  sh := to_side (by rw [eq_sh]) h_ax.half h_ay.half h_bx.half h_by.half h_cx.half h_cy.half
  tu := to_circle (by rw [eq_tu]) (h_ax.halves h_vx) (h_ay.halves h_vy) (h_bx.halves h_vx) (h_by.halves h_vy) (h_cx.halves h_vx) (h_cy.halves h_vy) (h_dx.halves h_vx) (h_dy.halves h_vy)
  th := to_circle (by rw [eq_th]) h_ax.half h_ay.half h_bx.half h_by.half h_cx.half h_cy.half h_dx.half h_dy.half

/-- The five points lie in memory. -/
structure C5 (w : World) (B : Nat) (ax ay bx by' cx cy dx dy vx vy : Int) : Prop where
  c0 : w.cell? ⟨B, 0, none⟩ = some (.int .i64 ax)
  c1 : w.cell? ⟨B, 1, none⟩ = some (.int .i64 ay)
  c2 : w.cell? ⟨B + 1, 0, none⟩ = some (.int .i64 bx)
  c3 : w.cell? ⟨B + 1, 1, none⟩ = some (.int .i64 by')
  c4 : w.cell? ⟨B + 1 + 1, 0, none⟩ = some (.int .i64 cx)
  c5 : w.cell? ⟨B + 1 + 1, 1, none⟩ = some (.int .i64 cy)
  c6 : w.cell? ⟨B + 1 + 1 + 1, 0, none⟩ = some (.int .i64 dx)
  c7 : w.cell? ⟨B + 1 + 1 + 1, 1, none⟩ = some (.int .i64 dy)
  c8 : w.cell? ⟨B + 1 + 1 + 1 + 1, 0, none⟩ = some (.int .i64 vx)
  c9 : w.cell? ⟨B + 1 + 1 + 1 + 1, 1, none⟩ = some (.int .i64 vy)

theorem New.cell_kept {w1 w2 : World} (h : New w1 w2) {b o : Nat} {v : Value} (hc : w1.cell? ⟨b, o, none⟩ = some v) : w2.cell? ⟨b, o, none⟩ = some v :=
  (h.rule b o (World.block_lt_of_cell? w1 _ hc)).trans hc

theorem C5.next {w w' : World} {B : Nat} {ax ay bx by' cx cy dx dy vx vy : Int} (h : C5 w B ax ay bx by' cx cy dx dy vx vy) (H : New w w') : C5 w' B ax ay bx by' cx cy dx dy vx vy :=
  ⟨H.cell_kept h.c0, H.cell_kept h.c1, H.cell_kept h.c2, H.cell_kept h.c3, H.cell_kept h.c4, H.cell_kept h.c5, H.cell_kept h.c6, H.cell_kept h.c7, H.cell_kept h.c8, H.cell_kept h.c9⟩

/-- 'fits' over five points. -/
theorem fits5 (ax ay bx by' cx cy dx dy vx vy : Int) (W : World) (g : Nat) (hg : g = W.heap.size) (hin : In64 [(ax, ay), (bx, by'), (cx, cy), (dx, dy), (vx, vy)]) :
    Calls Try.prog 17 #[.slice (some ⟨g, 0, none⟩) 5 5] (W.alloc (.cells #[.int .i64 ax, .int .i64 ay, .int .i64 bx, .int .i64 by', .int .i64 cx, .int .i64 cy, .int .i64 dx, .int .i64 dy, .int .i64 vx, .int .i64 vy] 23)) fun e w' =>
      ∃ (gg cap : Nat) (a0 a1 b0 b1 c0 c1 d0 d1 v0 v1 : Int), e = .returned (.slice (some ⟨gg, 0, none⟩) 5 cap) ∧ Hid (New W w') ∧ Hid ((Cd a0 ∧ Cd a1 ∧ Cd b0 ∧ Cd b1 ∧ Cd c0 ∧ Cd c1 ∧ Cd d0 ∧ Cd d1 ∧ Cd v0 ∧ Cd v1) ∧ gg < w'.heap.size ∧ 5 ≤ cap ∧ cap ≤ maxLen ∧
        PtsAt w' gg 0 [(a0, a1), (b0, b1), (c0, c1), (d0, d1), (v0, v1)]) := by
  subst hg
  have hp : PtsAt (W.alloc (.cells #[.int .i64 ax, .int .i64 ay, .int .i64 bx, .int .i64 by', .int .i64 cx, .int .i64 cy, .int .i64 dx, .int .i64 dy, .int .i64 vx, .int .i64 vy] 23)) W.heap.size 0 [(ax, ay), (bx, by'), (cx, cy), (dx, dy), (vx, vy)] := by
    intro i hi
    rw [cell_of_row _ _ _ _ 23 (0, 0) (_root_.Go.heap_alloc_new W _), cell_of_row _ _ _ _ 23 (0, 0) (_root_.Go.heap_alloc_new W _)]
    match i, hi with
    | 0, _ => exact ⟨rfl, rfl⟩
    | 1, _ => exact ⟨rfl, rfl⟩
    | 2, _ => exact ⟨rfl, rfl⟩
    | 3, _ => exact ⟨rfl, rfl⟩
    | 4, _ => exact ⟨rfl, rfl⟩
  refine (fits_some W.heap.size 0 5 [(ax, ay), (bx, by'), (cx, cy), (dx, dy), (vx, vy)] _ hp (by simp) (by simp) (by omega) hin).mono ?_
  rintro e w' ⟨v, out, rfl, H⟩
  obtain ⟨hn, hok, hl, hown⟩ := H.out
  match out, hl with
  | [(a0, a1), (b0, b1), (c0, c1), (d0, d1), (v0, v1)], _ =>
    have m (p : Int × Int) (h : p ∈ [(a0, a1), (b0, b1), (c0, c1), (d0, d1), (v0, v1)]) := okB_cd hok h
    rcases hown.2 with ⟨_, h0⟩ | ⟨gg, cap, cur, rfl, _, h2, h3, h4, h5, h6⟩
    · simp at h0
    · refine ⟨gg, cap, a0, a1, b0, b1, c0, c1, d0, d1, v0, v1, rfl, (New.alloc W _).trans' hn, ⟨(m (a0, a1) (by simp)).1, (m (a0, a1) (by simp)).2, (m (b0, b1) (by simp)).1, (m (b0, b1) (by simp)).2, (m (c0, c1) (by simp)).1, (m (c0, c1) (by simp)).2, (m (d0, d1) (by simp)).1, (m (d0, d1) (by simp)).2, (m (v0, v1) (by simp)).1, (m (v0, v1) (by simp)).2⟩, (Array.getElem?_eq_some_iff.1 h2).1, by simpa using h3, h4, ?_⟩
      have hcell : ∀ (j : Nat) (u : Value), j < 10 → (flatP [(a0, a1), (b0, b1), (c0, c1), (d0, d1), (v0, v1)])[j]? = some u → w'.cell? ⟨gg, j, none⟩ = some u := by
        intro j u hj hu
        rw [cell_of_row w' gg j cur 23 (0, 0) h2]
        rw [← h6] at hu
        rw [List.getElem?_take_of_lt (by simpa using hj)] at hu
        simpa using hu
      intro i hi
      match i, hi with
      | 0, _ => exact ⟨hcell 0 _ (by omega) rfl, hcell 1 _ (by omega) rfl⟩
      | 1, _ => exact ⟨hcell 2 _ (by omega) rfl, hcell 3 _ (by omega) rfl⟩
      | 2, _ => exact ⟨hcell 4 _ (by omega) rfl, hcell 5 _ (by omega) rfl⟩
      | 3, _ => exact ⟨hcell 6 _ (by omega) rfl, hcell 7 _ (by omega) rfl⟩
      | 4, _ => exact ⟨hcell 8 _ (by omega) rfl, hcell 9 _ (by omega) rfl⟩

end Go.Proofs.Ytgeoffpcmkofkaa
