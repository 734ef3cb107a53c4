/- Wr: texts laid into one. -/
import Derived.Test.YtgeoffpcmkofkaaQbe
import Derived.Deep.DeepCutAuto
/- The walk of plumbref's 'Side'. -/
namespace Go.Proofs.Ytgeoffpcmkofkaa
open Go.RowKit Fl Dg
set_option maxRecDepth 100000

theorem gap_any' {a b : Int} {w : World} (ha : Cd a) (hb : Cd b) : Calls Try.prog 39 #[.int .i64 a, .int .i64 b] w fun e w' => ∃ (neg : Bool) (ao : Option Addr) (m c : Nat), e = .returned (.agg #[.bool neg, .slice ao m c]) ∧ Hid (Nu w' (.agg #[.bool neg, .slice ao m c]) (a - b) 4 ∧ New w w') :=
  (gap_any a b w ha hb).mono fun _ _ h => h.open

/-- A variable of type Num holds a number. -/
def VarN (W : World) (x : Int) (L : Nat) (v : Value) (wx : World) : Prop := ∃ (b : Nat) (neg : Bool) (ao : Option Addr) (m c : Nat), v = .pointer (some ⟨b, 0, none⟩) ∧ Hid (wx.heap[b]? = some (.cells #[.bool neg, .slice ao m c] 55 (0, 0)) ∧ Nu wx (.agg #[.bool neg, .slice ao m c]) x L ∧ New W wx)


theorem varN_set {W wA w3 : World} {x : Int} {L : Nat} {neg : Bool} {ao : Option Addr} {m c : Nat} (hW : New W wA) (h : New (wA.alloc (.cells #[.bool false, .slice none 0 0] 55)) w3) (hnu : Nu w3 (.agg #[.bool neg, .slice ao m c]) x L) :
    VarN W x L (.pointer (some ⟨wA.heap.size, 0, none⟩)) ((w3.setCell ⟨wA.heap.size, 0, none⟩ (.bool neg)).setCell ⟨wA.heap.size, 1, none⟩ (.slice ao m c)) := by
  have hz : w3.heap[wA.heap.size]? = some (.cells #[.bool false, .slice none 0 0] 55 (0, 0)) := by
    rw [h.block _ (by simp) (by simp)]; exact _root_.Go.heap_alloc_new wA _
  have hN : New W w3 := (hW.alloc' _).trans' h
  obtain ⟨n, e, H⟩ := nu_stored hN hW.size hnu hz
  cases e
  exact ⟨_, neg, ao, m, c, rfl, pair_set1 (pair_set0 hz), H.out.1, H.out.2⟩

theorem varN_new {W w3 : World} {x : Int} {L : Nat} {neg : Bool} {ao : Option Addr} {m c : Nat} (hW : New W w3) (hnu : Nu w3 (.agg #[.bool neg, .slice ao m c]) x L) :
    VarN W x L (.pointer (some ⟨w3.heap.size, 0, none⟩)) (w3.alloc (.cells #[.bool neg, .slice ao m c] 55)) :=
  ⟨_, neg, ao, m, c, rfl, _root_.Go.heap_alloc_new w3 _, hnu.kept (New.alloc _ _), hW.alloc' _⟩

theorem VarN.drew {W : World} {x : Int} {L : Nat} {v : Value} {wx : World} (h : VarN W x L v wx) : VarN W x L v wx.drew := by
  obtain ⟨b, neg, ao, m, c, e, H⟩ := h
  exact ⟨b, neg, ao, m, c, e, H.out.1, H.out.2.1.kept ((New.refl wx).drewN 1), H.out.2.2.drewN 1⟩

theorem VarN.kept {W : World} {x : Int} {L : Nat} {v : Value} {wx wy : World} (h : VarN W x L v wx) (hn : New wx wy) : VarN W x L v wy := by
  obtain ⟨b, neg, ao, m, c, e, H⟩ := h
  exact ⟨b, neg, ao, m, c, e, by rw [hn.block _ (lt_of_block H.out.1) (by simp)]; exact H.out.1, H.out.2.1.kept hn, H.out.2.2.trans' hn⟩

theorem zfacts {wA w3 : World} (h : New (wA.alloc (.cells #[.bool false, .slice none 0 0] 55)) w3) : w3.cell? ⟨wA.heap.size, 0, none⟩ = some (.bool false) ∧ w3.cell? ⟨wA.heap.size, 1, none⟩ = some (.slice none 0 0) ∧ ∀ o, w3.frozen? ⟨wA.heap.size, o, none⟩ = false := by
  have hz : w3.heap[wA.heap.size]? = some (.cells #[.bool false, .slice none 0 0] 55 (0, 0)) := by
    rw [h.block _ (by simp) (by simp)]; exact _root_.Go.heap_alloc_new wA _
  exact ⟨pair_cell0 hz, pair_cell1 hz, fun o => pair_free hz⟩

theorem six_keep {W w' : World} {g : Nat} {p q r s t u : Value} (hn : New W w') (hs : g + 1 + 1 < W.heap.size ∧ W.cell? ⟨g, 0, none⟩ = some p ∧ W.cell? ⟨g, 1, none⟩ = some q ∧ W.cell? ⟨g + 1, 0, none⟩ = some r ∧ W.cell? ⟨g + 1, 1, none⟩ = some s ∧ W.cell? ⟨g + 1 + 1, 0, none⟩ = some t ∧ W.cell? ⟨g + 1 + 1, 1, none⟩ = some u) :
    g + 1 + 1 < w'.heap.size ∧ w'.cell? ⟨g, 0, none⟩ = some p ∧ w'.cell? ⟨g, 1, none⟩ = some q ∧ w'.cell? ⟨g + 1, 0, none⟩ = some r ∧ w'.cell? ⟨g + 1, 1, none⟩ = some s ∧ w'.cell? ⟨g + 1 + 1, 0, none⟩ = some t ∧ w'.cell? ⟨g + 1 + 1, 1, none⟩ = some u := by
  obtain ⟨h0, h1, h2, h3, h4, h5, h6⟩ := hs
  have := hn.size
  refine ⟨by omega, ?_, ?_, ?_, ?_, ?_, ?_⟩
  all_goals (rw [hn.rule _ _ (by omega)]; assumption)

theorem six_set {W : World} {g b : Nat} {p q r s t u x y : Value} (hb : g + 1 + 1 < b) (hs : g + 1 + 1 < W.heap.size ∧ W.cell? ⟨g, 0, none⟩ = some p ∧ W.cell? ⟨g, 1, none⟩ = some q ∧ W.cell? ⟨g + 1, 0, none⟩ = some r ∧ W.cell? ⟨g + 1, 1, none⟩ = some s ∧ W.cell? ⟨g + 1 + 1, 0, none⟩ = some t ∧ W.cell? ⟨g + 1 + 1, 1, none⟩ = some u) :
    g + 1 + 1 < ((W.setCell ⟨b, 0, none⟩ x).setCell ⟨b, 1, none⟩ y).heap.size ∧ ((W.setCell ⟨b, 0, none⟩ x).setCell ⟨b, 1, none⟩ y).cell? ⟨g, 0, none⟩ = some p ∧ ((W.setCell ⟨b, 0, none⟩ x).setCell ⟨b, 1, none⟩ y).cell? ⟨g, 1, none⟩ = some q ∧ ((W.setCell ⟨b, 0, none⟩ x).setCell ⟨b, 1, none⟩ y).cell? ⟨g + 1, 0, none⟩ = some r ∧ ((W.setCell ⟨b, 0, none⟩ x).setCell ⟨b, 1, none⟩ y).cell? ⟨g + 1, 1, none⟩ = some s ∧ ((W.setCell ⟨b, 0, none⟩ x).setCell ⟨b, 1, none⟩ y).cell? ⟨g + 1 + 1, 0, none⟩ = some t ∧ ((W.setCell ⟨b, 0, none⟩ x).setCell ⟨b, 1, none⟩ y).cell? ⟨g + 1 + 1, 1, none⟩ = some u := by
  obtain ⟨h0, h1, h2, h3, h4, h5, h6⟩ := hs
  have key : ∀ k o, k ≤ g + 1 + 1 → ((W.setCell ⟨b, 0, none⟩ x).setCell ⟨b, 1, none⟩ y).cell? ⟨k, o, none⟩ = W.cell? ⟨k, o, none⟩ := fun k o hk =>
    World.cell?_of_block (a := ⟨k, o, none⟩) ((heap_setCell_other _ ⟨b, 1, none⟩ k y (by simp; omega)).trans (heap_setCell_other W ⟨b, 0, none⟩ k x (by simp; omega)))
  refine ⟨by simpa [World.setCell] using h0, ?_, ?_, ?_, ?_, ?_, ?_⟩
  all_goals (rw [key _ _ (by omega)]; assumption)

theorem four_keep {W w' : World} {g k : Nat} {p q r s : Value} (hn : New W w') (hs : g < W.heap.size ∧ k < W.heap.size ∧ W.cell? ⟨g, 0, none⟩ = some p ∧ W.cell? ⟨g, 1, none⟩ = some q ∧ W.cell? ⟨k, 0, none⟩ = some r ∧ W.cell? ⟨k, 1, none⟩ = some s) :
    g < w'.heap.size ∧ k < w'.heap.size ∧ w'.cell? ⟨g, 0, none⟩ = some p ∧ w'.cell? ⟨g, 1, none⟩ = some q ∧ w'.cell? ⟨k, 0, none⟩ = some r ∧ w'.cell? ⟨k, 1, none⟩ = some s := by
  obtain ⟨h0, h1, h2, h3, h4, h5⟩ := hs
  have := hn.size
  refine ⟨by omega, by omega, ?_, ?_, ?_, ?_⟩
  all_goals (rw [hn.rule _ _ (by omega)]; assumption)

set_option maxHeartbeats 6400000 in
theorem refSide_any (ax ay bx by' cx cy : Int) (w : World) (h1 : Cd ax) (h2 : Cd ay) (h3 : Cd bx) (h4 : Cd by') (h5 : Cd cx) (h6 : Cd cy) :
    Calls Try.prog 13 #[.agg #[.int .i64 ax, .int .i64 ay], .agg #[.int .i64 bx, .int .i64 by'], .agg #[.int .i64 cx, .int .i64 cy]] w fun e w' =>
      e = .returned (.int .i64 (sgn (det ax ay bx by' cx cy))) ∧ Hid (New w w') := by
  obtain ⟨W, hW⟩ : ∃ W, W = ((w.alloc (.cells #[.int .i64 ax, .int .i64 ay] 23)).alloc (.cells #[.int .i64 bx, .int .i64 by'] 23)).alloc (.cells #[.int .i64 cx, .int .i64 cy] 23) := ⟨_, rfl⟩
  have HW : Hid (New w W ∧ W.heap.size = w.heap.size + 3) := by rw [hW]; exact ⟨((New.alloc _ _).alloc' _).alloc' _, by simp⟩
  have a0 : W.cell? ⟨w.heap.size, 0, none⟩ = some (.int .i64 ax) := by rw [hW]; go_simp
  have a1 : W.cell? ⟨w.heap.size, 1, none⟩ = some (.int .i64 ay) := by rw [hW]; go_simp
  have b0 : W.cell? ⟨w.heap.size + 1, 0, none⟩ = some (.int .i64 bx) := by rw [hW]; go_simp
  have b1 : W.cell? ⟨w.heap.size + 1, 1, none⟩ = some (.int .i64 by') := by rw [hW]; go_simp
  have c0 : W.cell? ⟨w.heap.size + 1 + 1, 0, none⟩ = some (.int .i64 cx) := by rw [hW]; go_simp
  have c1 : W.cell? ⟨w.heap.size + 1 + 1, 1, none⟩ = some (.int .i64 cy) := by rw [hW]; go_simp
  go_enter Try.func13, Try.ntmps13
  go_wp2_with fail
  rw [← hW]
  clear hW
  have HS : Hid (w.heap.size + 1 + 1 < W.heap.size ∧ W.cell? ⟨w.heap.size, 0, none⟩ = some (.int .i64 ax) ∧ W.cell? ⟨w.heap.size, 1, none⟩ = some (.int .i64 ay) ∧ W.cell? ⟨w.heap.size + 1, 0, none⟩ = some (.int .i64 bx) ∧ W.cell? ⟨w.heap.size + 1, 1, none⟩ = some (.int .i64 by') ∧ W.cell? ⟨w.heap.size + 1 + 1, 0, none⟩ = some (.int .i64 cx) ∧ W.cell? ⟨w.heap.size + 1 + 1, 1, none⟩ = some (.int .i64 cy)) := ⟨by have := HW.out.2; omega, a0, a1, b0, b1, c0, c1⟩
  clear a0 a1 b0 b1 c0 c1
  go_cut [7] from 9 to 19 (fun s7 wx => VarN W ((bx - ax) * (cy - ay)) 9 s7 wx)
  case first =>
    have hS := HS.out
    go_region_held3 (fun w' => w.heap.size + 1 + 1 < w'.heap.size ∧ w'.cell? ⟨w.heap.size, 0, none⟩ = some (.int .i64 ax) ∧ w'.cell? ⟨w.heap.size, 1, none⟩ = some (.int .i64 ay) ∧ w'.cell? ⟨w.heap.size + 1, 0, none⟩ = some (.int .i64 bx) ∧ w'.cell? ⟨w.heap.size + 1, 1, none⟩ = some (.int .i64 by') ∧ w'.cell? ⟨w.heap.size + 1 + 1, 0, none⟩ = some (.int .i64 cx) ∧ w'.cell? ⟨w.heap.size + 1 + 1, 1, none⟩ = some (.int .i64 cy))
      (first | exact HS.out | exact six_keep H3.out.2 (by assumption) | exact six_keep H2.out.2 (by assumption) | exact six_keep H1.out.2 (by assumption) | exact six_keep (New.alloc _ _) (by assumption) | exact six_keep (((((New.refl W).drew.trans' H1.out.2).trans' H2.out.2).trans' H3.out.2).alloc' _) HS.out | exact six_set (by have := H1.out.2.size; have := H2.out.2.size; simp at *; omega) (by assumption) | go_keep)
      (first
        | (go_at_call_of 39 bx; refine (gap_any' h3 h1).mono ?_; rintro e w1 ⟨n1, o1, m1, d1, rfl, H1⟩)
        | (go_at_call_of 39 cy; refine (gap_any' h6 h2).mono ?_; rintro e w2 ⟨n2, o2, m2, d2, rfl, H2⟩)
        | (go_at_call 38; refine (mul_num' (H1.out.1.kept H2.out.2) H2.out.1 (by omega)).mono ?_; rintro e w3 ⟨n3, o3, m3, d3, rfl, H3⟩; have rr := ((H1.out.2.trans' H2.out.2).trans' H3.out.2).rule; have rf := ((H1.out.2.trans' H2.out.2).trans' H3.out.2).frule)
        | (go_at_call 38; refine (mul_num' (H1.out.1.kept ((New.alloc _ _).trans' H2.out.2)) H2.out.1 (by omega)).mono ?_; rintro e w3 ⟨n3, o3, m3, d3, rfl, H3⟩; have rr := (H2.out.2.trans' H3.out.2).rule; have rf := (H2.out.2.trans' H3.out.2).frule)
        | (go_at_call 38; refine (mul_num' (H1.out.1.kept (H2.out.2.alloc' _)) (H2.out.1.kept (New.alloc _ _)) (by omega)).mono ?_; rintro e w3 ⟨n3, o3, m3, d3, rfl, H3⟩; have rr := H3.out.2.rule; have rf := H3.out.2.frule))
    · go_wp2_with fail
      go_meet
      exact varN_new ((((New.refl W).drew.trans' H1.out.2).trans' H2.out.2).trans' H3.out.2) H3.out.1
    · go_wp2_with fail
      go_meet
      exact varN_set (((New.refl W).drew.trans' H1.out.2).trans' H2.out.2) H3.out.2 H3.out.1
    · go_wp2_with fail
      go_meet
      exact varN_set ((New.refl W).drew.trans' H1.out.2) (H2.out.2.trans' H3.out.2) H3.out.1
    · go_wp2_with fail
      go_meet
      exact varN_set (wA := W.drew) (New.refl W).drew ((H1.out.2.trans' H2.out.2).trans' H3.out.2) H3.out.1
  case rest =>
  obtain ⟨g1, na, oa, ma, da, rfl, HA⟩ := hcut
  obtain ⟨V, hV⟩ : ∃ V, V = wc := ⟨_, rfl⟩
  rw [← hV] at HA ⊢
  clear hV
  have HS2 : Hid (w.heap.size + 1 + 1 < V.heap.size ∧ V.cell? ⟨w.heap.size, 0, none⟩ = some (.int .i64 ax) ∧ V.cell? ⟨w.heap.size, 1, none⟩ = some (.int .i64 ay) ∧ V.cell? ⟨w.heap.size + 1, 0, none⟩ = some (.int .i64 bx) ∧ V.cell? ⟨w.heap.size + 1, 1, none⟩ = some (.int .i64 by') ∧ V.cell? ⟨w.heap.size + 1 + 1, 0, none⟩ = some (.int .i64 cx) ∧ V.cell? ⟨w.heap.size + 1 + 1, 1, none⟩ = some (.int .i64 cy)) := six_keep HA.out.2.2 HS.out
  go_wp2_with fail
  go_cut [8] from 20 to 30 (fun s8 wx => VarN V ((by' - ay) * (cx - ax)) 9 s8 wx)
  case first =>
    have hS := HS2.out
    go_region_held3 (fun w' => w.heap.size + 1 + 1 < w'.heap.size ∧ w'.cell? ⟨w.heap.size, 0, none⟩ = some (.int .i64 ax) ∧ w'.cell? ⟨w.heap.size, 1, none⟩ = some (.int .i64 ay) ∧ w'.cell? ⟨w.heap.size + 1, 0, none⟩ = some (.int .i64 bx) ∧ w'.cell? ⟨w.heap.size + 1, 1, none⟩ = some (.int .i64 by') ∧ w'.cell? ⟨w.heap.size + 1 + 1, 0, none⟩ = some (.int .i64 cx) ∧ w'.cell? ⟨w.heap.size + 1 + 1, 1, none⟩ = some (.int .i64 cy))
      (first | exact HS2.out | exact six_keep H3.out.2 (by assumption) | exact six_keep H2.out.2 (by assumption) | exact six_keep H1.out.2 (by assumption) | exact six_keep (New.alloc _ _) (by assumption) | exact six_keep (((((New.refl V).drew.trans' H1.out.2).trans' H2.out.2).trans' H3.out.2).alloc' _) HS2.out | exact six_set (by have := H1.out.2.size; have := H2.out.2.size; simp at *; omega) (by assumption) | go_keep)
      (first
        | (go_at_call_of 39 by'; refine (gap_any' h4 h2).mono ?_; rintro e w1 ⟨n1, o1, m1, d1, rfl, H1⟩)
        | (go_at_call_of 39 cx; refine (gap_any' h5 h1).mono ?_; rintro e w2 ⟨n2, o2, m2, d2, rfl, H2⟩)
        | (go_at_call 38; refine (mul_num' (H1.out.1.kept H2.out.2) H2.out.1 (by omega)).mono ?_; rintro e w3 ⟨n3, o3, m3, d3, rfl, H3⟩; have rr := ((H1.out.2.trans' H2.out.2).trans' H3.out.2).rule; have rf := ((H1.out.2.trans' H2.out.2).trans' H3.out.2).frule)
        | (go_at_call 38; refine (mul_num' (H1.out.1.kept ((New.alloc _ _).trans' H2.out.2)) H2.out.1 (by omega)).mono ?_; rintro e w3 ⟨n3, o3, m3, d3, rfl, H3⟩; have rr := (H2.out.2.trans' H3.out.2).rule; have rf := (H2.out.2.trans' H3.out.2).frule)
        | (go_at_call 38; refine (mul_num' (H1.out.1.kept (H2.out.2.alloc' _)) (H2.out.1.kept (New.alloc _ _)) (by omega)).mono ?_; rintro e w3 ⟨n3, o3, m3, d3, rfl, H3⟩; have rr := H3.out.2.rule; have rf := H3.out.2.frule))
    · go_wp2_with fail
      go_meet
      exact varN_new ((((New.refl V).drew.trans' H1.out.2).trans' H2.out.2).trans' H3.out.2) H3.out.1
    · go_wp2_with fail
      go_meet
      exact varN_set (((New.refl V).drew.trans' H1.out.2).trans' H2.out.2) H3.out.2 H3.out.1
    · go_wp2_with fail
      go_meet
      exact varN_set ((New.refl V).drew.trans' H1.out.2) (H2.out.2.trans' H3.out.2) H3.out.1
    · go_wp2_with fail
      go_meet
      exact varN_set (wA := V.drew) (New.refl V).drew ((H1.out.2.trans' H2.out.2).trans' H3.out.2) H3.out.1
  case rest =>
  obtain ⟨g2, nb, ob, mb, db, rfl, HB⟩ := hcut
  obtain ⟨U, hU⟩ : ∃ U, U = wc := ⟨_, rfl⟩
  rw [← hU] at HB ⊢
  clear hU
  have hA := HA.out.1
  have HA2 : Hid (U.heap[g1]? = some (.cells #[.bool na, .slice oa ma da] 55 (0, 0)) ∧ Nu U (.agg #[.bool na, .slice oa ma da]) ((bx - ax) * (cy - ay)) 9 ∧ New w U) := ⟨by rw [HB.out.2.2.block _ (lt_of_block hA) (by simp)]; exact hA, HA.out.2.1.kept HB.out.2.2, (HW.out.1.trans' HA.out.2.2).trans' HB.out.2.2⟩
  have hF : g1 < U.heap.size ∧ g2 < U.heap.size ∧ U.cell? ⟨g1, 0, none⟩ = some (.bool na) ∧ U.cell? ⟨g1, 1, none⟩ = some (.slice oa ma da) ∧ U.cell? ⟨g2, 0, none⟩ = some (.bool nb) ∧ U.cell? ⟨g2, 1, none⟩ = some (.slice ob mb db) := ⟨lt_of_block HA2.out.1, lt_of_block HB.out.1, pair_cell0 HA2.out.1, pair_cell1 HA2.out.1, pair_cell0 HB.out.1, pair_cell1 HB.out.1⟩
  clear hA
  go_wp2_with fail
  go_region_held3 (fun w' => g1 < w'.heap.size ∧ g2 < w'.heap.size ∧ w'.cell? ⟨g1, 0, none⟩ = some (.bool na) ∧ w'.cell? ⟨g1, 1, none⟩ = some (.slice oa ma da) ∧ w'.cell? ⟨g2, 0, none⟩ = some (.bool nb) ∧ w'.cell? ⟨g2, 1, none⟩ = some (.slice ob mb db))
    (first | exact hF | exact four_keep H3.out (by assumption) | exact four_keep H2.out.2 (by assumption) | exact four_keep H1.out.2 (by assumption) | go_keep)
    (first
      | (go_at_call 42; refine (minus_num' (HB.out.2.1.kept ((New.refl U).drewN 1))).mono ?_; rintro e w1 ⟨n1, o1, m1, d1, rfl, H1⟩)
      | (go_at_call 41; refine (add_num' (HA2.out.2.1.kept ((New.refl U).drew.trans' H1.out.2)) H1.out.1 (by omega)).mono ?_; rintro e w2 ⟨n2, o2, m2, d2, rfl, H2⟩)
      | (go_at_call 40; refine (sign_num _ _ _ _ H2.out.1 (by omega)).mono ?_; rintro e w3 ⟨rfl, H3⟩))
  go_wp2_with fail
  go_ret
  refine ⟨?_, (((HA2.out.2.2.trans' ((New.refl U).drew.trans' H1.out.2)).trans' H2.out.2).trans' H3.out)⟩
  rw [det, Int.sub_eq_add_neg]; rfl

end Go.Proofs.Ytgeoffpcmkofkaa
