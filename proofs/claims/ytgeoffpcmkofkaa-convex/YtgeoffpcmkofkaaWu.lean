/- The walks of package side: 'newExactRow', 'exactTerm'. -/
import Derived.Test.YtgeoffpcmkofkaaWt
namespace Go.Proofs.Ytgeoffpcmkofkaa
open Go.RowKit Fl
set_option maxRecDepth 100000

/-- A row of the determinant, not rounded, in memory. -/
structure ERow (w : World) (X Y : Int) (g1 g2 g3 c3 : Nat) (x y s : Ws) : Prop where
  nx : Nm w g1 2 x X 55 2
  ny : Nm w g2 2 y Y 55 2
  ns : Nm w g3 c3 s (X * X + Y * Y) 113 16

theorem ERow.kept {w w' : World} {X Y : Int} {g1 g2 g3 c3 : Nat} {x y s : Ws} (h : ERow w X Y g1 g2 g3 c3 x y s) (hn : New w w') : ERow w' X Y g1 g2 g3 c3 x y s :=
  ⟨h.nx.kept hn, h.ny.kept hn, h.ns.kept hn⟩

/-- A block that is written lies apart from an expansion. -/
theorem Lst.set3 {w : World} {g cap b : Nat} {ws : Ws} (h : Lst w g cap ws) (hb : g ≠ b) (x y z : Value) : Lst (((w.setCell ⟨b, 0, none⟩ x).setCell ⟨b, 1, none⟩ y).setCell ⟨b, 2, none⟩ z) g cap ws := by
  obtain ⟨cur, h1, h2⟩ := h.row
  refine ⟨⟨cur, ?_, h2⟩, h.words, h.ex, h.small⟩
  rw [heap_setCell_other _ ⟨b, 2, none⟩ g z hb, heap_setCell_other _ ⟨b, 1, none⟩ g y hb, heap_setCell_other _ ⟨b, 0, none⟩ g x hb]
  exact h1

theorem Nm.set3 {w : World} {g cap b : Nat} {ws : Ws} {v : Int} {m n : Nat} (h : Nm w g cap ws v m n) (hb : g ≠ b) (x y z : Value) : Nm (((w.setCell ⟨b, 0, none⟩ x).setCell ⟨b, 1, none⟩ y).setCell ⟨b, 2, none⟩ z) g cap ws v m n :=
  ⟨h.lst.set3 hb x y z, h.tot, h.mass, h.len⟩

/-- The block of an expansion is none of another type. -/
theorem Lst.ne_block {w : World} {g cap b : Nat} {ws : Ws} {cs : Array Value} {t : TypeId} (h : Lst w g cap ws) (hb : w.heap[b]? = some (.cells cs t (0, 0))) (ht : t ≠ 81) : g ≠ b := by
  rintro rfl
  obtain ⟨cur, h1, _⟩ := h.row
  rw [hb] at h1
  simp at h1
  exact ht h1.2

set_option maxHeartbeats 800000 in
theorem newExactRow_any (px py dx dy : Int) (w : World) (h1 : Cd px) (h2 : Cd py) (h3 : Cd dx) (h4 : Cd dy) :
    Calls Try.prog 81 #[.agg #[.int .i64 px, .int .i64 py], .agg #[.int .i64 dx, .int .i64 dy]] w fun e w' =>
      ∃ (g1 g2 g3 c3 : Nat) (x y s : Ws), e = .returned (.agg #[.slice (some ⟨g1, 0, none⟩) x.length 2, .slice (some ⟨g2, 0, none⟩) y.length 2, .slice (some ⟨g3, 0, none⟩) s.length c3]) ∧ Hid (New w w' ∧ ERow w' (px - dx) (py - dy) g1 g2 g3 c3 x y s) := by
  go_enter Try.func81, Try.ntmps81
  go_wp2_with fail
  refine (exactApart_any px py dx dy _ h1 h2 h3 h4).mono ?_
  rintro e w1 ⟨g1, g2, x, y, rfl, H1⟩
  go_wp2_with fail
  refine (times_nm H1.out.1 H1.out.1 (by omega) (by omega) (by omega)).mono ?_
  rintro e w2 ⟨g3, c3, p, rfl, H2⟩
  go_wp2_with fail
  refine (times_nm (H1.out.2.1.kept H2.out.2.2) (H1.out.2.1.kept H2.out.2.2) (by omega) (by omega) (by omega)).mono ?_
  rintro e w3 ⟨g4, c4, q, rfl, H3⟩
  go_wp2_with fail
  refine (plus_nm (H2.out.1.kept H3.out.2.2) H3.out.1 (by omega) (by omega) (by omega)).mono ?_
  rintro e w4 ⟨g5, c5, s, rfl, H4⟩
  have HN : Hid (New (((w.alloc (.cells #[.int .i64 px, .int .i64 py] 23)).alloc (.cells #[.int .i64 dx, .int .i64 dy] 23)).alloc (.cells #[.slice none 0 0, .slice none 0 0, .slice none 0 0] 97)) w4) := ((H1.out.2.2.2.2.trans' H2.out.2.2).trans' H3.out.2.2).trans' H4.out.2.2
  have hR : w4.heap[w.heap.size + 1 + 1]? = some (.cells #[.slice none 0 0, .slice none 0 0, .slice none 0 0] 97 (0, 0)) := by
    rw [HN.out.block _ (by simp) (by simp)]
    have := _root_.Go.heap_alloc_new ((w.alloc (.cells #[.int .i64 px, .int .i64 py] 23)).alloc (.cells #[.int .i64 dx, .int .i64 dy] 23)) (.cells #[.slice none 0 0, .slice none 0 0, .slice none 0 0] 97)
    simpa using this
  have HR : Hid (w4.heap[w.heap.size + 1 + 1]? = some (.cells #[.slice none 0 0, .slice none 0 0, .slice none 0 0] 97 (0, 0))) := hR
  have q0 : w4.cell? ⟨w.heap.size + 1 + 1, 0, none⟩ = some (.slice none 0 0) := by simp [World.cell?, hR]
  have q1 : w4.cell? ⟨w.heap.size + 1 + 1, 1, none⟩ = some (.slice none 0 0) := by simp [World.cell?, hR]
  have q2 : w4.cell? ⟨w.heap.size + 1 + 1, 2, none⟩ = some (.slice none 0 0) := by simp [World.cell?, hR]
  have f0 : w4.frozen? ⟨w.heap.size + 1 + 1, 0, none⟩ = false := by simp [World.frozen?, hR]
  have f1 : w4.frozen? ⟨w.heap.size + 1 + 1, 1, none⟩ = false := by simp [World.frozen?, hR]
  have f2 : w4.frozen? ⟨w.heap.size + 1 + 1, 2, none⟩ = false := by simp [World.frozen?, hR]
  clear hR
  go_wp2_with fail
  refine bodyPost_ret (v := .agg #[.slice (some ⟨g1, 0, none⟩) x.length 2, .slice (some ⟨g2, 0, none⟩) y.length 2, .slice (some ⟨g5, 0, none⟩) s.length c5]) (by simp [results, Try.results81, go_sem, q0, q1, q2]) rfl ?_
  have kx := ((H1.out.1.kept H2.out.2.2).kept H3.out.2.2).kept H4.out.2.2
  have ky := ((H1.out.2.1.kept H2.out.2.2).kept H3.out.2.2).kept H4.out.2.2
  refine ⟨g1, g2, g5, c5, x, y, s, rfl, ?_, kx.set3 (kx.lst.ne_block HR.out (by decide)) _ _ _, ky.set3 (ky.lst.ne_block HR.out (by decide)) _ _ _, H4.out.1.set3 (H4.out.1.lst.ne_block HR.out (by decide)) _ _ _⟩
  exact Below.new' ((((New.below' ((((New.alloc w _).alloc' _).alloc' _).trans' HN.out)).setCell (p := ⟨w.heap.size + 1 + 1, 0, none⟩) (by simp <;> omega) _).setCell (p := ⟨w.heap.size + 1 + 1, 1, none⟩) (by simp <;> omega) _).setCell (p := ⟨w.heap.size + 1 + 1, 2, none⟩) (by simp <;> omega) _)

theorem five_keep {W w' : World} {g : Nat} {p q r s t : Value} (hn : New W w') (hs : g + 1 + 1 < W.heap.size ∧ W.cell? ⟨g, 2, none⟩ = some p ∧ W.cell? ⟨g + 1, 0, none⟩ = some q ∧ W.cell? ⟨g + 1, 1, none⟩ = some r ∧ W.cell? ⟨g + 1 + 1, 0, none⟩ = some s ∧ W.cell? ⟨g + 1 + 1, 1, none⟩ = some t) :
    g + 1 + 1 < w'.heap.size ∧ w'.cell? ⟨g, 2, none⟩ = some p ∧ w'.cell? ⟨g + 1, 0, none⟩ = some q ∧ w'.cell? ⟨g + 1, 1, none⟩ = some r ∧ w'.cell? ⟨g + 1 + 1, 0, none⟩ = some s ∧ w'.cell? ⟨g + 1 + 1, 1, none⟩ = some t := by
  obtain ⟨h0, h1, h2, h3, h4, h5⟩ := hs
  have := hn.size
  refine ⟨by omega, ?_, ?_, ?_, ?_, ?_⟩
  all_goals (rw [hn.rule _ _ (by omega)]; assumption)

set_option maxHeartbeats 1600000 in
theorem exactTerm_any {A B C D X Y : Int} {ux uy us cs vx vy vs dv wx wy ws ew : Nat} {k l s p q t m n o : Ws} (w : World) (hu : ERow w X Y ux uy us cs k l s) (hv : ERow w A B vx vy vs dv p q t) (hw : ERow w C D wx wy ws ew m n o) :
    Calls Try.prog 82 #[.agg #[.slice (some ⟨ux, 0, none⟩) k.length 2, .slice (some ⟨uy, 0, none⟩) l.length 2, .slice (some ⟨us, 0, none⟩) s.length cs], .agg #[.slice (some ⟨vx, 0, none⟩) p.length 2, .slice (some ⟨vy, 0, none⟩) q.length 2, .slice (some ⟨vs, 0, none⟩) t.length dv], .agg #[.slice (some ⟨wx, 0, none⟩) m.length 2, .slice (some ⟨wy, 0, none⟩) n.length 2, .slice (some ⟨ws, 0, none⟩) o.length ew]] w fun e w' =>
      ∃ (g c : Nat) (z : Ws), e = .returned (.slice (some ⟨g, 0, none⟩) z.length c) ∧ Hid (New w w' ∧ Nm w' g c z ((X * X + Y * Y) * (A * D - B * C)) 227 512) := by
  obtain ⟨W, hW⟩ : ∃ W, W = ((w.alloc (.cells #[.slice (some ⟨ux, 0, none⟩) k.length 2, .slice (some ⟨uy, 0, none⟩) l.length 2, .slice (some ⟨us, 0, none⟩) s.length cs] 97)).alloc (.cells #[.slice (some ⟨vx, 0, none⟩) p.length 2, .slice (some ⟨vy, 0, none⟩) q.length 2, .slice (some ⟨vs, 0, none⟩) t.length dv] 97)).alloc (.cells #[.slice (some ⟨wx, 0, none⟩) m.length 2, .slice (some ⟨wy, 0, none⟩) n.length 2, .slice (some ⟨ws, 0, none⟩) o.length ew] 97) := ⟨_, rfl⟩
  have HW : Hid (New w W.drew) := by rw [hW]; exact (((New.alloc _ _).alloc' _).alloc' _).drewN 1
  have hS : w.heap.size + 1 + 1 < W.heap.size ∧ W.cell? ⟨w.heap.size, 2, none⟩ = some (.slice (some ⟨us, 0, none⟩) s.length cs) ∧ W.cell? ⟨w.heap.size + 1, 0, none⟩ = some (.slice (some ⟨vx, 0, none⟩) p.length 2) ∧ W.cell? ⟨w.heap.size + 1, 1, none⟩ = some (.slice (some ⟨vy, 0, none⟩) q.length 2) ∧ W.cell? ⟨w.heap.size + 1 + 1, 0, none⟩ = some (.slice (some ⟨wx, 0, none⟩) m.length 2) ∧ W.cell? ⟨w.heap.size + 1 + 1, 1, none⟩ = some (.slice (some ⟨wy, 0, none⟩) n.length 2) := by
    rw [hW]
    refine ⟨by simp, ?_, ?_, ?_, ?_, ?_⟩ <;> go_simp
  go_enter Try.func82, Try.ntmps82
  go_wp2_with fail
  rw [← hW]
  clear hW
  go_region_held3 (fun w' => w.heap.size + 1 + 1 < w'.heap.size ∧ w'.cell? ⟨w.heap.size, 2, none⟩ = some (.slice (some ⟨us, 0, none⟩) s.length cs) ∧ w'.cell? ⟨w.heap.size + 1, 0, none⟩ = some (.slice (some ⟨vx, 0, none⟩) p.length 2) ∧ w'.cell? ⟨w.heap.size + 1, 1, none⟩ = some (.slice (some ⟨vy, 0, none⟩) q.length 2) ∧ w'.cell? ⟨w.heap.size + 1 + 1, 0, none⟩ = some (.slice (some ⟨wx, 0, none⟩) m.length 2) ∧ w'.cell? ⟨w.heap.size + 1 + 1, 1, none⟩ = some (.slice (some ⟨wy, 0, none⟩) n.length 2))
    (first | exact hS | exact five_keep H4.out.2.2 (by assumption) | exact five_keep H3.out.2.2 (by assumption) | exact five_keep H2.out.2.2 (by assumption) | exact five_keep H1.out.2.2 (by assumption) | go_keep)
    (first
      | (go_at_call_of 76 vx; refine (times_nm (hv.nx.kept HW.out) (hw.ny.kept HW.out) (by omega) (by omega) (by omega)).mono ?_; rintro e w1 ⟨g1, c1, z1, rfl, H1⟩)
      | (go_at_call_of 76 vy; refine (times_nm ((hv.ny.kept HW.out).kept H1.out.2.2) ((hw.nx.kept HW.out).kept H1.out.2.2) (by omega) (by omega) (by omega)).mono ?_; rintro e w2 ⟨g2, c2, z2, rfl, H2⟩)
      | (go_at_call 77; refine (minus_nm (H1.out.1.kept H2.out.2.2) H2.out.1 (by omega) (by omega) (by omega)).mono ?_; rintro e w3 ⟨g3, c3, z3, rfl, H3⟩)
      | (go_at_call_of 76 us; refine (times_nm ((((hu.ns.kept HW.out).kept H1.out.2.2).kept H2.out.2.2).kept H3.out.2.2) H3.out.1 (by omega) (by omega) (by omega)).mono ?_; rintro e w4 ⟨g4, c4, z4, rfl, H4⟩))
  go_wp2_with fail
  go_ret
  exact ⟨g4, c4, z4, rfl, (((HW.out.trans' H1.out.2.2).trans' H2.out.2.2).trans' H3.out.2.2).trans' H4.out.2.2, H4.out.1⟩

end Go.Proofs.Ytgeoffpcmkofkaa
