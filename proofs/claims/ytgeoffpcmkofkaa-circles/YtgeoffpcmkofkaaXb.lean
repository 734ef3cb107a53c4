/- The walk of plumbref's 'Circle'. -/
import Derived.Test.YtgeoffpcmkofkaaXa
import Derived.Test.YtgeoffpcmkofkaaWz
namespace Go.Proofs.Ytgeoffpcmkofkaa
open Go.RowKit Fl Dg
set_option maxRecDepth 100000

theorem square_any' {ax ay dx dy : Int} {w : World} (h1 : Cd ax) (h2 : Cd ay) (h3 : Cd dx) (h4 : Cd dy) : Calls Try.prog 44 #[.agg #[.int .i64 ax, .int .i64 ay], .agg #[.int .i64 dx, .int .i64 dy]] w fun e w' => ∃ (neg : Bool) (ao : Option Addr) (m c : Nat), e = .returned (.agg #[.bool neg, .slice ao m c]) ∧ Hid (Nu w' (.agg #[.bool neg, .slice ao m c]) ((ax - dx) * (ax - dx) + (ay - dy) * (ay - dy)) 10 ∧ New w w') :=
  (square_any ax ay dx dy w h1 h2 h3 h4).mono fun _ _ h => h.open
theorem minor_any' {ax ay bx by' cx cy : Int} {w : World} (h1 : Cd ax) (h2 : Cd ay) (h3 : Cd bx) (h4 : Cd by') (h5 : Cd cx) (h6 : Cd cy) : Calls Try.prog 45 #[.agg #[.int .i64 ax, .int .i64 ay], .agg #[.int .i64 bx, .int .i64 by'], .agg #[.int .i64 cx, .int .i64 cy]] w fun e w' => ∃ (neg : Bool) (ao : Option Addr) (m c : Nat), e = .returned (.agg #[.bool neg, .slice ao m c]) ∧ Hid (Nu w' (.agg #[.bool neg, .slice ao m c]) ((ax - cx) * (by' - cy) - (bx - cx) * (ay - cy)) 10 ∧ New w w') :=
  (minor_any ax ay bx by' cx cy w h1 h2 h3 h4 h5 h6).mono fun _ _ h => h.open

theorem Nu.more {w : World} {n : Value} {x : Int} {L M : Nat} (h : Nu w n x L) (hL : L ≤ M) : Nu w n x M := by
  obtain ⟨neg, v, ds, h1, h2, h3, h4, h5⟩ := h.ex
  exact ⟨⟨neg, v, ds, h1, h2, h3, h4, by omega⟩⟩

theorem eight_set {W : World} {g b : Nat} {p q r s t u k l x y : Value} (hb : g + 1 + 1 + 1 < b) (hs : g + 1 + 1 + 1 < W.heap.size ∧ W.cell? ⟨g, 0, none⟩ = some p ∧ W.cell? ⟨g, 1, none⟩ = some q ∧ W.cell? ⟨g + 1, 0, none⟩ = some r ∧ W.cell? ⟨g + 1, 1, none⟩ = some s ∧ W.cell? ⟨g + 1 + 1, 0, none⟩ = some t ∧ W.cell? ⟨g + 1 + 1, 1, none⟩ = some u ∧ W.cell? ⟨g + 1 + 1 + 1, 0, none⟩ = some k ∧ W.cell? ⟨g + 1 + 1 + 1, 1, none⟩ = some l) :
    g + 1 + 1 + 1 < ((W.setCell ⟨b, 0, none⟩ x).setCell ⟨b, 1, none⟩ y).heap.size ∧ ((W.setCell ⟨b, 0, none⟩ x).setCell ⟨b, 1, none⟩ y).cell? ⟨g, 0, none⟩ = some p ∧ ((W.setCell ⟨b, 0, none⟩ x).setCell ⟨b, 1, none⟩ y).cell? ⟨g, 1, none⟩ = some q ∧ ((W.setCell ⟨b, 0, none⟩ x).setCell ⟨b, 1, none⟩ y).cell? ⟨g + 1, 0, none⟩ = some r ∧ ((W.setCell ⟨b, 0, none⟩ x).setCell ⟨b, 1, none⟩ y).cell? ⟨g + 1, 1, none⟩ = some s ∧ ((W.setCell ⟨b, 0, none⟩ x).setCell ⟨b, 1, none⟩ y).cell? ⟨g + 1 + 1, 0, none⟩ = some t ∧ ((W.setCell ⟨b, 0, none⟩ x).setCell ⟨b, 1, none⟩ y).cell? ⟨g + 1 + 1, 1, none⟩ = some u ∧ ((W.setCell ⟨b, 0, none⟩ x).setCell ⟨b, 1, none⟩ y).cell? ⟨g + 1 + 1 + 1, 0, none⟩ = some k ∧ ((W.setCell ⟨b, 0, none⟩ x).setCell ⟨b, 1, none⟩ y).cell? ⟨g + 1 + 1 + 1, 1, none⟩ = some l := by
  obtain ⟨h0, h1, h2, h3, h4, h5, h6, h7, h8⟩ := hs
  have key : ∀ c o, c ≤ g + 1 + 1 + 1 → ((W.setCell ⟨b, 0, none⟩ x).setCell ⟨b, 1, none⟩ y).cell? ⟨c, o, none⟩ = W.cell? ⟨c, o, none⟩ := fun c o hc =>
    World.cell?_of_block (a := ⟨c, o, none⟩) ((heap_setCell_other _ ⟨b, 1, none⟩ c y (by simp; omega)).trans (heap_setCell_other W ⟨b, 0, none⟩ c x (by simp; omega)))
  refine ⟨by simpa [World.setCell] using h0, ?_, ?_, ?_, ?_, ?_, ?_, ?_, ?_⟩
  all_goals (rw [key _ _ (by omega)]; assumption)

theorem three_keep {W w' : World} {g1 g2 g3 : Nat} {p q r s t u : Value} (hn : New W w') (hs : g1 < W.heap.size ∧ g2 < W.heap.size ∧ g3 < W.heap.size ∧ W.cell? ⟨g1, 0, none⟩ = some p ∧ W.cell? ⟨g1, 1, none⟩ = some q ∧ W.cell? ⟨g2, 0, none⟩ = some r ∧ W.cell? ⟨g2, 1, none⟩ = some s ∧ W.cell? ⟨g3, 0, none⟩ = some t ∧ W.cell? ⟨g3, 1, none⟩ = some u) :
    g1 < w'.heap.size ∧ g2 < w'.heap.size ∧ g3 < w'.heap.size ∧ w'.cell? ⟨g1, 0, none⟩ = some p ∧ w'.cell? ⟨g1, 1, none⟩ = some q ∧ w'.cell? ⟨g2, 0, none⟩ = some r ∧ w'.cell? ⟨g2, 1, none⟩ = some s ∧ w'.cell? ⟨g3, 0, none⟩ = some t ∧ w'.cell? ⟨g3, 1, none⟩ = some u := by
  obtain ⟨h0, h1, h2, a0, a1, a2, a3, a4, a5⟩ := hs
  have := hn.size
  refine ⟨by omega, by omega, by omega, ?_, ?_, ?_, ?_, ?_, ?_⟩
  all_goals (rw [hn.rule _ _ (by omega)]; assumption)

set_option maxHeartbeats 12800000 in
theorem refCircle_any (ax ay bx by' cx cy dx dy : Int) (w : World) (h1 : Cd ax) (h2 : Cd ay) (h3 : Cd bx) (h4 : Cd by') (h5 : Cd cx) (h6 : Cd cy) (h7 : Cd dx) (h8 : Cd dy) :
    Calls Try.prog 15 #[.agg #[.int .i64 ax, .int .i64 ay], .agg #[.int .i64 bx, .int .i64 by'], .agg #[.int .i64 cx, .int .i64 cy], .agg #[.int .i64 dx, .int .i64 dy]] w fun e w' =>
      e = .returned (.int .i64 (sgn (cdet ax ay bx by' cx cy dx dy))) ∧ Hid (New w w') := by
  obtain ⟨W, hW⟩ : ∃ W, W = (((w.alloc (.cells #[.int .i64 ax, .int .i64 ay] 23)).alloc (.cells #[.int .i64 bx, .int .i64 by'] 23)).alloc (.cells #[.int .i64 cx, .int .i64 cy] 23)).alloc (.cells #[.int .i64 dx, .int .i64 dy] 23) := ⟨_, rfl⟩
  have HW : Hid (New w W) := by rw [hW]; exact (((New.alloc _ _).alloc' _).alloc' _).alloc' _
  have HS : Hid (w.heap.size + 1 + 1 + 1 < W.heap.size ∧ W.cell? ⟨w.heap.size, 0, none⟩ = some (.int .i64 ax) ∧ W.cell? ⟨w.heap.size, 1, none⟩ = some (.int .i64 ay) ∧ W.cell? ⟨w.heap.size + 1, 0, none⟩ = some (.int .i64 bx) ∧ W.cell? ⟨w.heap.size + 1, 1, none⟩ = some (.int .i64 by') ∧ W.cell? ⟨w.heap.size + 1 + 1, 0, none⟩ = some (.int .i64 cx) ∧ W.cell? ⟨w.heap.size + 1 + 1, 1, none⟩ = some (.int .i64 cy) ∧ W.cell? ⟨w.heap.size + 1 + 1 + 1, 0, none⟩ = some (.int .i64 dx) ∧ W.cell? ⟨w.heap.size + 1 + 1 + 1, 1, none⟩ = some (.int .i64 dy)) := by
    rw [hW]
    refine ⟨by simp, ?_, ?_, ?_, ?_, ?_, ?_, ?_, ?_⟩ <;> go_simp
  go_enter Try.func15, Try.ntmps15
  go_wp2_with fail
  rw [← hW]
  clear hW
  go_cut [9] from 12 to 19 (fun s9 wx => VarM W (((ax - dx) * (ax - dx) + (ay - dy) * (ay - dy)) * ((bx - dx) * (cy - dy) - (cx - dx) * (by' - dy))) 21 s9 wx)
  case first =>
    have hS := HS.out
    go_region_held3 (fun w' => w.heap.size + 1 + 1 + 1 < w'.heap.size ∧ w'.cell? ⟨w.heap.size, 0, none⟩ = some (.int .i64 ax) ∧ w'.cell? ⟨w.heap.size, 1, none⟩ = some (.int .i64 ay) ∧ w'.cell? ⟨w.heap.size + 1, 0, none⟩ = some (.int .i64 bx) ∧ w'.cell? ⟨w.heap.size + 1, 1, none⟩ = some (.int .i64 by') ∧ w'.cell? ⟨w.heap.size + 1 + 1, 0, none⟩ = some (.int .i64 cx) ∧ w'.cell? ⟨w.heap.size + 1 + 1, 1, none⟩ = some (.int .i64 cy) ∧ w'.cell? ⟨w.heap.size + 1 + 1 + 1, 0, none⟩ = some (.int .i64 dx) ∧ w'.cell? ⟨w.heap.size + 1 + 1 + 1, 1, none⟩ = some (.int .i64 dy))
      (first | exact HS.out | exact eight_keep H3.out.2 (by assumption) | exact eight_keep H2.out.2 (by assumption) | exact eight_keep H1.out.2 (by assumption) | exact eight_keep (New.alloc _ _) (by assumption) | exact eight_keep (((((New.refl W).drew.trans' H1.out.2).trans' H2.out.2).trans' H3.out.2).alloc' _) HS.out | exact eight_set (by have := H1.out.2.size; have := H2.out.2.size; simp at *; omega) (by assumption) | go_keep)
      (first
        | (go_at_call 44; refine (square_any' h1 h2 h7 h8).mono ?_; rintro e w1 ⟨n1, o1, m1, d1, rfl, H1⟩)
        | (go_at_call 45; refine (minor_any' h3 h4 h5 h6 h7 h8).mono ?_; rintro e w2 ⟨n2, o2, m2, d2, rfl, H2⟩)
        | (go_at_call 38; refine (mul_num' (H1.out.1.kept H2.out.2) H2.out.1 (by omega)).mono ?_; rintro e w3 ⟨n3, o3, m3, d3, rfl, H3⟩; have rr := ((H1.out.2.trans' H2.out.2).trans' H3.out.2).rule; have rf := ((H1.out.2.trans' H2.out.2).trans' H3.out.2).frule)
        | (go_at_call 38; refine (mul_num' (H1.out.1.kept ((New.alloc _ _).trans' H2.out.2)) H2.out.1 (by omega)).mono ?_; rintro e w3 ⟨n3, o3, m3, d3, rfl, H3⟩; have rr := (H2.out.2.trans' H3.out.2).rule; have rf := (H2.out.2.trans' H3.out.2).frule)
        | (go_at_call 38; refine (mul_num' (H1.out.1.kept (H2.out.2.alloc' _)) (H2.out.1.kept (New.alloc _ _)) (by omega)).mono ?_; rintro e w3 ⟨n3, o3, m3, d3, rfl, H3⟩; have rr := H3.out.2.rule; have rf := H3.out.2.frule))
    · go_wp2_with fail
      go_meet
      exact varM_new ((((New.refl W).drew.trans' H1.out.2).trans' H2.out.2).trans' H3.out.2) H3.out.1
    · go_wp2_with fail
      go_meet
      exact varM_set (((New.refl W).drew.trans' H1.out.2).trans' H2.out.2) H3.out.2 H3.out.1
    · go_wp2_with fail
      go_meet
      exact varM_set ((New.refl W).drew.trans' H1.out.2) (H2.out.2.trans' H3.out.2) H3.out.1
    · go_wp2_with fail
      go_meet
      exact varM_set (wA := W.drew) (New.refl W).drew ((H1.out.2.trans' H2.out.2).trans' H3.out.2) H3.out.1
  case rest =>
  obtain ⟨g1, na, oa, ma, da, rfl, HA⟩ := hcut
  obtain ⟨V, hV⟩ : ∃ V, V = wc := ⟨_, rfl⟩
  rw [← hV] at HA ⊢
  clear hV
  have HS2 : Hid (w.heap.size + 1 + 1 + 1 < V.heap.size ∧ V.cell? ⟨w.heap.size, 0, none⟩ = some (.int .i64 ax) ∧ V.cell? ⟨w.heap.size, 1, none⟩ = some (.int .i64 ay) ∧ V.cell? ⟨w.heap.size + 1, 0, none⟩ = some (.int .i64 bx) ∧ V.cell? ⟨w.heap.size + 1, 1, none⟩ = some (.int .i64 by') ∧ V.cell? ⟨w.heap.size + 1 + 1, 0, none⟩ = some (.int .i64 cx) ∧ V.cell? ⟨w.heap.size + 1 + 1, 1, none⟩ = some (.int .i64 cy) ∧ V.cell? ⟨w.heap.size + 1 + 1 + 1, 0, none⟩ = some (.int .i64 dx) ∧ V.cell? ⟨w.heap.size + 1 + 1 + 1, 1, none⟩ = some (.int .i64 dy)) := eight_keep HA.out.2.2.1 HS.out
  go_wp2_with fail
  go_cut [10] from 20 to 27 (fun s10 wx => VarM V (((bx - dx) * (bx - dx) + (by' - dy) * (by' - dy)) * ((cx - dx) * (ay - dy) - (ax - dx) * (cy - dy))) 21 s10 wx)
  case first =>
    have hS := HS2.out
    go_region_held3 (fun w' => w.heap.size + 1 + 1 + 1 < w'.heap.size ∧ w'.cell? ⟨w.heap.size, 0, none⟩ = some (.int .i64 ax) ∧ w'.cell? ⟨w.heap.size, 1, none⟩ = some (.int .i64 ay) ∧ w'.cell? ⟨w.heap.size + 1, 0, none⟩ = some (.int .i64 bx) ∧ w'.cell? ⟨w.heap.size + 1, 1, none⟩ = some (.int .i64 by') ∧ w'.cell? ⟨w.heap.size + 1 + 1, 0, none⟩ = some (.int .i64 cx) ∧ w'.cell? ⟨w.heap.size + 1 + 1, 1, none⟩ = some (.int .i64 cy) ∧ w'.cell? ⟨w.heap.size + 1 + 1 + 1, 0, none⟩ = some (.int .i64 dx) ∧ w'.cell? ⟨w.heap.size + 1 + 1 + 1, 1, none⟩ = some (.int .i64 dy))
      (first | exact HS2.out | exact eight_keep H3.out.2 (by assumption) | exact eight_keep H2.out.2 (by assumption) | exact eight_keep H1.out.2 (by assumption) | exact eight_keep (New.alloc _ _) (by assumption) | exact eight_keep (((((New.refl V).drew.trans' H1.out.2).trans' H2.out.2).trans' H3.out.2).alloc' _) HS2.out | exact eight_set (by have := H1.out.2.size; have := H2.out.2.size; simp at *; omega) (by assumption) | go_keep)
      (first
        | (go_at_call 44; refine (square_any' h3 h4 h7 h8).mono ?_; rintro e w1 ⟨n1, o1, m1, d1, rfl, H1⟩)
        | (go_at_call 45; refine (minor_any' h5 h6 h1 h2 h7 h8).mono ?_; rintro e w2 ⟨n2, o2, m2, d2, rfl, H2⟩)
        | (go_at_call 38; refine (mul_num' (H1.out.1.kept H2.out.2) H2.out.1 (by omega)).mono ?_; rintro e w3 ⟨n3, o3, m3, d3, rfl, H3⟩; have rr := ((H1.out.2.trans' H2.out.2).trans' H3.out.2).rule; have rf := ((H1.out.2.trans' H2.out.2).trans' H3.out.2).frule)
        | (go_at_call 38; refine (mul_num' (H1.out.1.kept ((New.alloc _ _).trans' H2.out.2)) H2.out.1 (by omega)).mono ?_; rintro e w3 ⟨n3, o3, m3, d3, rfl, H3⟩; have rr := (H2.out.2.trans' H3.out.2).rule; have rf := (H2.out.2.trans' H3.out.2).frule)
        | (go_at_call 38; refine (mul_num' (H1.out.1.kept (H2.out.2.alloc' _)) (H2.out.1.kept (New.alloc _ _)) (by omega)).mono ?_; rintro e w3 ⟨n3, o3, m3, d3, rfl, H3⟩; have rr := H3.out.2.rule; have rf := H3.out.2.frule))
    · go_wp2_with fail
      go_meet
      exact varM_new ((((New.refl V).drew.trans' H1.out.2).trans' H2.out.2).trans' H3.out.2) H3.out.1
    · go_wp2_with fail
      go_meet
      exact varM_set (((New.refl V).drew.trans' H1.out.2).trans' H2.out.2) H3.out.2 H3.out.1
    · go_wp2_with fail
      go_meet
      exact varM_set ((New.refl V).drew.trans' H1.out.2) (H2.out.2.trans' H3.out.2) H3.out.1
    · go_wp2_with fail
      go_meet
      exact varM_set (wA := V.drew) (New.refl V).drew ((H1.out.2.trans' H2.out.2).trans' H3.out.2) H3.out.1
  case rest =>
  obtain ⟨g2, nb, ob, mb, db, rfl, HB⟩ := hcut
  obtain ⟨T, hV⟩ : ∃ V, V = wc := ⟨_, rfl⟩
  rw [← hV] at HB ⊢
  clear hV
  have HS3 : Hid (w.heap.size + 1 + 1 + 1 < T.heap.size ∧ T.cell? ⟨w.heap.size, 0, none⟩ = some (.int .i64 ax) ∧ T.cell? ⟨w.heap.size, 1, none⟩ = some (.int .i64 ay) ∧ T.cell? ⟨w.heap.size + 1, 0, none⟩ = some (.int .i64 bx) ∧ T.cell? ⟨w.heap.size + 1, 1, none⟩ = some (.int .i64 by') ∧ T.cell? ⟨w.heap.size + 1 + 1, 0, none⟩ = some (.int .i64 cx) ∧ T.cell? ⟨w.heap.size + 1 + 1, 1, none⟩ = some (.int .i64 cy) ∧ T.cell? ⟨w.heap.size + 1 + 1 + 1, 0, none⟩ = some (.int .i64 dx) ∧ T.cell? ⟨w.heap.size + 1 + 1 + 1, 1, none⟩ = some (.int .i64 dy)) := eight_keep HB.out.2.2.1 HS2.out
  go_wp2_with fail
  go_cut [11] from 28 to 35 (fun s11 wx => VarM T (((cx - dx) * (cx - dx) + (cy - dy) * (cy - dy)) * ((ax - dx) * (by' - dy) - (bx - dx) * (ay - dy))) 21 s11 wx)
  case first =>
    have hS := HS3.out
    go_region_held3 (fun w' => w.heap.size + 1 + 1 + 1 < w'.heap.size ∧ w'.cell? ⟨w.heap.size, 0, none⟩ = some (.int .i64 ax) ∧ w'.cell? ⟨w.heap.size, 1, none⟩ = some (.int .i64 ay) ∧ w'.cell? ⟨w.heap.size + 1, 0, none⟩ = some (.int .i64 bx) ∧ w'.cell? ⟨w.heap.size + 1, 1, none⟩ = some (.int .i64 by') ∧ w'.cell? ⟨w.heap.size + 1 + 1, 0, none⟩ = some (.int .i64 cx) ∧ w'.cell? ⟨w.heap.size + 1 + 1, 1, none⟩ = some (.int .i64 cy) ∧ w'.cell? ⟨w.heap.size + 1 + 1 + 1, 0, none⟩ = some (.int .i64 dx) ∧ w'.cell? ⟨w.heap.size + 1 + 1 + 1, 1, none⟩ = some (.int .i64 dy))
      (first | exact HS3.out | exact eight_keep H3.out.2 (by assumption) | exact eight_keep H2.out.2 (by assumption) | exact eight_keep H1.out.2 (by assumption) | exact eight_keep (New.alloc _ _) (by assumption) | exact eight_keep (((((New.refl T).drew.trans' H1.out.2).trans' H2.out.2).trans' H3.out.2).alloc' _) HS3.out | exact eight_set (by have := H1.out.2.size; have := H2.out.2.size; simp at *; omega) (by assumption) | go_keep)
      (first
        | (go_at_call 44; refine (square_any' h5 h6 h7 h8).mono ?_; rintro e w1 ⟨n1, o1, m1, d1, rfl, H1⟩)
        | (go_at_call 45; refine (minor_any' h1 h2 h3 h4 h7 h8).mono ?_; rintro e w2 ⟨n2, o2, m2, d2, rfl, H2⟩)
        | (go_at_call 38; refine (mul_num' (H1.out.1.kept H2.out.2) H2.out.1 (by omega)).mono ?_; rintro e w3 ⟨n3, o3, m3, d3, rfl, H3⟩; have rr := ((H1.out.2.trans' H2.out.2).trans' H3.out.2).rule; have rf := ((H1.out.2.trans' H2.out.2).trans' H3.out.2).frule)
        | (go_at_call 38; refine (mul_num' (H1.out.1.kept ((New.alloc _ _).trans' H2.out.2)) H2.out.1 (by omega)).mono ?_; rintro e w3 ⟨n3, o3, m3, d3, rfl, H3⟩; have rr := (H2.out.2.trans' H3.out.2).rule; have rf := (H2.out.2.trans' H3.out.2).frule)
        | (go_at_call 38; refine (mul_num' (H1.out.1.kept (H2.out.2.alloc' _)) (H2.out.1.kept (New.alloc _ _)) (by omega)).mono ?_; rintro e w3 ⟨n3, o3, m3, d3, rfl, H3⟩; have rr := H3.out.2.rule; have rf := H3.out.2.frule))
    · go_wp2_with fail
      go_meet
      exact varM_new ((((New.refl T).drew.trans' H1.out.2).trans' H2.out.2).trans' H3.out.2) H3.out.1
    · go_wp2_with fail
      go_meet
      exact varM_set (((New.refl T).drew.trans' H1.out.2).trans' H2.out.2) H3.out.2 H3.out.1
    · go_wp2_with fail
      go_meet
      exact varM_set ((New.refl T).drew.trans' H1.out.2) (H2.out.2.trans' H3.out.2) H3.out.1
    · go_wp2_with fail
      go_meet
      exact varM_set (wA := T.drew) (New.refl T).drew ((H1.out.2.trans' H2.out.2).trans' H3.out.2) H3.out.1
  case rest =>
  obtain ⟨g3, nc, oc, mc, dc, rfl, HC⟩ := hcut
  obtain ⟨U, hU⟩ : ∃ U, U = wc := ⟨_, rfl⟩
  rw [← hU] at HC ⊢
  clear hU
  have HT : Hid (New V T ∧ New T U ∧ New V U) := ⟨HB.out.2.2.1, HC.out.2.2.1, HB.out.2.2.1.trans' HC.out.2.2.1⟩
  have HA2 : Hid (U.heap[g1]? = some (.cells #[.bool na, .slice oa ma da] 55 (0, 0)) ∧ Nu U (.agg #[.bool na, .slice oa ma da]) (((ax - dx) * (ax - dx) + (ay - dy) * (ay - dy)) * ((bx - dx) * (cy - dy) - (cx - dx) * (by' - dy))) 21) := ⟨by rw [HT.out.2.2.block _ (lt_of_block HA.out.1) (by simp)]; exact HA.out.1, HA.out.2.1.kept HT.out.2.2⟩
  have HB2 : Hid (U.heap[g2]? = some (.cells #[.bool nb, .slice ob mb db] 55 (0, 0)) ∧ Nu U (.agg #[.bool nb, .slice ob mb db]) (((bx - dx) * (bx - dx) + (by' - dy) * (by' - dy)) * ((cx - dx) * (ay - dy) - (ax - dx) * (cy - dy))) 21) := ⟨by rw [HT.out.2.1.block _ (lt_of_block HB.out.1) (by simp)]; exact HB.out.1, HB.out.2.1.kept HT.out.2.1⟩
  have HN : Hid (New w U.drew) := ((HW.out.trans' HA.out.2.2.1).trans' HT.out.2.2).drewN 1
  have hF : g1 < U.heap.size ∧ g2 < U.heap.size ∧ g3 < U.heap.size ∧ U.cell? ⟨g1, 0, none⟩ = some (.bool na) ∧ U.cell? ⟨g1, 1, none⟩ = some (.slice oa ma da) ∧ U.cell? ⟨g2, 0, none⟩ = some (.bool nb) ∧ U.cell? ⟨g2, 1, none⟩ = some (.slice ob mb db) ∧ U.cell? ⟨g3, 0, none⟩ = some (.bool nc) ∧ U.cell? ⟨g3, 1, none⟩ = some (.slice oc mc dc) := ⟨lt_of_block HA2.out.1, lt_of_block HB2.out.1, lt_of_block HC.out.1, pair_cell0 HA2.out.1, pair_cell1 HA2.out.1, pair_cell0 HB2.out.1, pair_cell1 HB2.out.1, pair_cell0 HC.out.1, pair_cell1 HC.out.1⟩
  go_wp2_with fail
  go_region_held3 (fun w' => g1 < w'.heap.size ∧ g2 < w'.heap.size ∧ g3 < w'.heap.size ∧ w'.cell? ⟨g1, 0, none⟩ = some (.bool na) ∧ w'.cell? ⟨g1, 1, none⟩ = some (.slice oa ma da) ∧ w'.cell? ⟨g2, 0, none⟩ = some (.bool nb) ∧ w'.cell? ⟨g2, 1, none⟩ = some (.slice ob mb db) ∧ w'.cell? ⟨g3, 0, none⟩ = some (.bool nc) ∧ w'.cell? ⟨g3, 1, none⟩ = some (.slice oc mc dc))
    (first | exact hF | exact three_keep H3.out (by assumption) | exact three_keep H2.out.2 (by assumption) | exact three_keep H1.out.2 (by assumption) | go_keep)
    (first
      | (go_at_call 41; refine (add_num' ((HA2.out.2.more (show 21 ≤ 22 by omega)).kept ((New.refl U).drew.trans' H1.out.2)) H1.out.1 (by omega)).mono ?_; rintro e w2 ⟨n2, o2, m2, d2, rfl, H2⟩)
      | (go_at_call 41; refine (add_num' (HB2.out.2.kept ((New.refl U).drewN 1)) (HC.out.2.1.kept ((New.refl U).drewN 1)) (by omega)).mono ?_; rintro e w1 ⟨n1, o1, m1, d1, rfl, H1⟩)
      | (go_at_call 40; refine (sign_num _ _ _ _ H2.out.1 (by omega)).mono ?_; rintro e w3 ⟨rfl, H3⟩))
  go_wp2_with fail
  go_ret
  refine ⟨?_, ((HN.out.trans' H1.out.2).trans' H2.out.2).trans' H3.out⟩
  have hx : ((ax - dx) * (ax - dx) + (ay - dy) * (ay - dy)) * ((bx - dx) * (cy - dy) - (cx - dx) * (by' - dy)) + (((bx - dx) * (bx - dx) + (by' - dy) * (by' - dy)) * ((cx - dx) * (ay - dy) - (ax - dx) * (cy - dy)) + ((cx - dx) * (cx - dx) + (cy - dy) * (cy - dy)) * ((ax - dx) * (by' - dy) - (bx - dx) * (ay - dy))) = cdet ax ay bx by' cx cy dx dy := by unfold cdet; grind
  rw [← hx]; rfl

end Go.Proofs.Ytgeoffpcmkofkaa
