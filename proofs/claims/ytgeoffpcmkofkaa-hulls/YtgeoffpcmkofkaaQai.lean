/- Wr; Yg; Ws: texts laid into one. -/
import Derived.Test.YtgeoffpcmkofkaaQaf
import Derived.Deep.DeepCutAuto
import Derived.Test.YtgeoffpcmkofkaaQae
/- The walk of plumbref's 'Side'. -/
namespace Go.Proofs.Ytgeoffpcmkofkaa
open Go.RowKit Fl Dg
set_option maxRecDepth 100000

theorem gap_any' {a b : Int} {w : World} (ha : Cd a) (hb : Cd b) : Calls Try.prog 39 #[.int .i64 a, .int .i64 b] w fun e w' => ∃ (neg : Bool) (ao : Option Addr) (m c : Nat), e = .returned (.agg #[.bool neg, .slice ao m c]) ∧ Hid (Nu w' (.agg #[.bool neg, .slice ao m c]) (a - b) 4 ∧ New w w') :=
  (gap_any a b w ha hb).mono fun _ _ h => h.open

/-- A variable of type Num holds a number. -/
def VarN (W : World) (x : Int) (L : Nat) (v : Value) (wx : World) : Prop := ∃ (b : Nat) (neg : Bool) (ao : Option Addr) (m c : Nat), v = .pointer (some ⟨b, 0, none⟩) ∧ Hid (wx.heap[b]? = some (.cells #[.bool neg, .slice ao m c] 55 (0, 0)) ∧ Nu wx (.agg #[.bool neg, .slice ao m c]) x L ∧ New W wx)


theorem varN_set {W wA w3 : World} {x : Int} {L : Nat} {neg : Bool} {ao : Option Addr} {m c : Nat} (hW : New W wA) (h : New (wA.alloc (.cells #[.bool false, .slice none 0 0] 55)) w3) (hnu : Nu w3 (.agg #[.bool neg, .slice ao m c]) x L) :
    VarN W x L (.pointer (some ⟨wA.heap.size, 0, none⟩)) ((w3.setCell ⟨wA.heap.size, 0, none⟩ (.bool neg)).setCell ⟨wA.heap.size, 1, none⟩ (.slice ao m c)) := by
  have hz : w3.heap[wA.heap.size]? = some (.cells #[.bool false, .slice none 0 0] 55 (0, 0)) := by
    rw [h.block _ (by simp) (by simp)]; exact _root_.Go.heap_alloc_new wA _
  have hN : New W w3 := (hW.alloc' _).trans' h
  obtain ⟨n, e, H⟩ := nu_stored hN hW.size hnu hz
  cases e
  exact ⟨_, neg, ao, m, c, rfl, pair_set1 (pair_set0 hz), H.out.1, H.out.2⟩

theorem varN_new {W w3 : World} {x : Int} {L : Nat} {neg : Bool} {ao : Option Addr} {m c : Nat} (hW : New W w3) (hnu : Nu w3 (.agg #[.bool neg, .slice ao m c]) x L) :
    VarN W x L (.pointer (some ⟨w3.heap.size, 0, none⟩)) (w3.alloc (.cells #[.bool neg, .slice ao m c] 55)) :=
  ⟨_, neg, ao, m, c, rfl, _root_.Go.heap_alloc_new w3 _, hnu.kept (New.alloc _ _), hW.alloc' _⟩

theorem VarN.drew {W : World} {x : Int} {L : Nat} {v : Value} {wx : World} (h : VarN W x L v wx) : VarN W x L v wx.drew := by
  obtain ⟨b, neg, ao, m, c, e, H⟩ := h
  exact ⟨b, neg, ao, m, c, e, H.out.1, H.out.2.1.kept ((New.refl wx).drewN 1), H.out.2.2.drewN 1⟩

theorem VarN.kept {W : World} {x : Int} {L : Nat} {v : Value} {wx wy : World} (h : VarN W x L v wx) (hn : New wx wy) : VarN W x L v wy := by
  obtain ⟨b, neg, ao, m, c, e, H⟩ := h
  exact ⟨b, neg, ao, m, c, e, by rw [hn.block _ (lt_of_block H.out.1) (by simp)]; exact H.out.1, H.out.2.1.kept hn, H.out.2.2.trans' hn⟩

theorem zfacts {wA w3 : World} (h : New (wA.alloc (.cells #[.bool false, .slice none 0 0] 55)) w3) : w3.cell? ⟨wA.heap.size, 0, none⟩ = some (.bool false) ∧ w3.cell? ⟨wA.heap.size, 1, none⟩ = some (.slice none 0 0) ∧ ∀ o, w3.frozen? ⟨wA.heap.size, o, none⟩ = false := by
  have hz : w3.heap[wA.heap.size]? = some (.cells #[.bool false, .slice none 0 0] 55 (0, 0)) := by
    rw [h.block _ (by simp) (by simp)]; exact _root_.Go.heap_alloc_new wA _
  exact ⟨pair_cell0 hz, pair_cell1 hz, fun o => pair_free hz⟩

theorem six_keep {W w' : World} {g : Nat} {p q r s t u : Value} (hn : New W w') (hs : g + 1 + 1 < W.heap.size ∧ W.cell? ⟨g, 0, none⟩ = some p ∧ W.cell? ⟨g, 1, none⟩ = some q ∧ W.cell? ⟨g + 1, 0, none⟩ = some r ∧ W.cell? ⟨g + 1, 1, none⟩ = some s ∧ W.cell? ⟨g + 1 + 1, 0, none⟩ = some t ∧ W.cell? ⟨g + 1 + 1, 1, none⟩ = some u) :
    g + 1 + 1 < w'.heap.size ∧ w'.cell? ⟨g, 0, none⟩ = some p ∧ w'.cell? ⟨g, 1, none⟩ = some q ∧ w'.cell? ⟨g + 1, 0, none⟩ = some r ∧ w'.cell? ⟨g + 1, 1, none⟩ = some s ∧ w'.cell? ⟨g + 1 + 1, 0, none⟩ = some t ∧ w'.cell? ⟨g + 1 + 1, 1, none⟩ = some u := by
  obtain ⟨h0, h1, h2, h3, h4, h5, h6⟩ := hs
  have := hn.size
  refine ⟨by omega, ?_, ?_, ?_, ?_, ?_, ?_⟩
  all_goals (rw [hn.rule _ _ (by omega)]; assumption)

theorem six_set {W : World} {g b : Nat} {p q r s t u x y : Value} (hb : g + 1 + 1 < b) (hs : g + 1 + 1 < W.heap.size ∧ W.cell? ⟨g, 0, none⟩ = some p ∧ W.cell? ⟨g, 1, none⟩ = some q ∧ W.cell? ⟨g + 1, 0, none⟩ = some r ∧ W.cell? ⟨g + 1, 1, none⟩ = some s ∧ W.cell? ⟨g + 1 + 1, 0, none⟩ = some t ∧ W.cell? ⟨g + 1 + 1, 1, none⟩ = some u) :
    g + 1 + 1 < ((W.setCell ⟨b, 0, none⟩ x).setCell ⟨b, 1, none⟩ y).heap.size ∧ ((W.setCell ⟨b, 0, none⟩ x).setCell ⟨b, 1, none⟩ y).cell? ⟨g, 0, none⟩ = some p ∧ ((W.setCell ⟨b, 0, none⟩ x).setCell ⟨b, 1, none⟩ y).cell? ⟨g, 1, none⟩ = some q ∧ ((W.setCell ⟨b, 0, none⟩ x).setCell ⟨b, 1, none⟩ y).cell? ⟨g + 1, 0, none⟩ = some r ∧ ((W.setCell ⟨b, 0, none⟩ x).setCell ⟨b, 1, none⟩ y).cell? ⟨g + 1, 1, none⟩ = some s ∧ ((W.setCell ⟨b, 0, none⟩ x).setCell ⟨b, 1, none⟩ y).cell? ⟨g + 1 + 1, 0, none⟩ = some t ∧ ((W.setCell ⟨b, 0, none⟩ x).setCell ⟨b, 1, none⟩ y).cell? ⟨g + 1 + 1, 1, none⟩ = some u := by
  obtain ⟨h0, h1, h2, h3, h4, h5, h6⟩ := hs
  have key : ∀ k o, k ≤ g + 1 + 1 → ((W.setCell ⟨b, 0, none⟩ x).setCell ⟨b, 1, none⟩ y).cell? ⟨k, o, none⟩ = W.cell? ⟨k, o, none⟩ := fun k o hk =>
    World.cell?_of_block (a := ⟨k, o, none⟩) ((heap_setCell_other _ ⟨b, 1, none⟩ k y (by simp; omega)).trans (heap_setCell_other W ⟨b, 0, none⟩ k x (by simp; omega)))
  refine ⟨by simpa [World.setCell] using h0, ?_, ?_, ?_, ?_, ?_, ?_⟩
  all_goals (rw [key _ _ (by omega)]; assumption)

theorem four_keep {W w' : World} {g k : Nat} {p q r s : Value} (hn : New W w') (hs : g < W.heap.size ∧ k < W.heap.size ∧ W.cell? ⟨g, 0, none⟩ = some p ∧ W.cell? ⟨g, 1, none⟩ = some q ∧ W.cell? ⟨k, 0, none⟩ = some r ∧ W.cell? ⟨k, 1, none⟩ = some s) :
    g < w'.heap.size ∧ k < w'.heap.size ∧ w'.cell? ⟨g, 0, none⟩ = some p ∧ w'.cell? ⟨g, 1, none⟩ = some q ∧ w'.cell? ⟨k, 0, none⟩ = some r ∧ w'.cell? ⟨k, 1, none⟩ = some s := by
  obtain ⟨h0, h1, h2, h3, h4, h5⟩ := hs
  have := hn.size
  refine ⟨by omega, by omega, ?_, ?_, ?_, ?_⟩
  all_goals (rw [hn.rule _ _ (by omega)]; assumption)

set_option maxHeartbeats 6400000 in
theorem refSide_any (ax ay bx by' cx cy : Int) (w : World) (h1 : Cd ax) (h2 : Cd ay) (h3 : Cd bx) (h4 : Cd by') (h5 : Cd cx) (h6 : Cd cy) :
    Calls Try.prog 13 #[.agg #[.int .i64 ax, .int .i64 ay], .agg #[.int .i64 bx, .int .i64 by'], .agg #[.int .i64 cx, .int .i64 cy]] w fun e w' =>
      e = .returned (.int .i64 (sgn (det ax ay bx by' cx cy))) ∧ Hid (New w w') := by
  obtain ⟨W, hW⟩ : ∃ W, W = ((w.alloc (.cells #[.int .i64 ax, .int .i64 ay] 23)).alloc (.cells #[.int .i64 bx, .int .i64 by'] 23)).alloc (.cells #[.int .i64 cx, .int .i64 cy] 23) := ⟨_, rfl⟩
  have HW : Hid (New w W ∧ W.heap.size = w.heap.size + 3) := by rw [hW]; exact ⟨((New.alloc _ _).alloc' _).alloc' _, by simp⟩
  have a0 : W.cell? ⟨w.heap.size, 0, none⟩ = some (.int .i64 ax) := by rw [hW]; go_simp
  have a1 : W.cell? ⟨w.heap.size, 1, none⟩ = some (.int .i64 ay) := by rw [hW]; go_simp
  have b0 : W.cell? ⟨w.heap.size + 1, 0, none⟩ = some (.int .i64 bx) := by rw [hW]; go_simp
  have b1 : W.cell? ⟨w.heap.size + 1, 1, none⟩ = some (.int .i64 by') := by rw [hW]; go_simp
  have c0 : W.cell? ⟨w.heap.size + 1 + 1, 0, none⟩ = some (.int .i64 cx) := by rw [hW]; go_simp
  have c1 : W.cell? ⟨w.heap.size + 1 + 1, 1, none⟩ = some (.int .i64 cy) := by rw [hW]; go_simp
  go_enter Try.func13, Try.ntmps13
  go_wp2_with fail
  rw [← hW]
  clear hW
  have HS : Hid (w.heap.size + 1 + 1 < W.heap.size ∧ W.cell? ⟨w.heap.size, 0, none⟩ = some (.int .i64 ax) ∧ W.cell? ⟨w.heap.size, 1, none⟩ = some (.int .i64 ay) ∧ W.cell? ⟨w.heap.size + 1, 0, none⟩ = some (.int .i64 bx) ∧ W.cell? ⟨w.heap.size + 1, 1, none⟩ = some (.int .i64 by') ∧ W.cell? ⟨w.heap.size + 1 + 1, 0, none⟩ = some (.int .i64 cx) ∧ W.cell? ⟨w.heap.size + 1 + 1, 1, none⟩ = some (.int .i64 cy)) := ⟨by have := HW.out.2; omega, a0, a1, b0, b1, c0, c1⟩
  clear a0 a1 b0 b1 c0 c1
  go_cut [7] from 9 to 19 (fun s7 wx => VarN W ((bx - ax) * (cy - ay)) 9 s7 wx)
  case first =>
    have hS := HS.out
    go_region_held3 (fun w' => w.heap.size + 1 + 1 < w'.heap.size ∧ w'.cell? ⟨w.heap.size, 0, none⟩ = some (.int .i64 ax) ∧ w'.cell? ⟨w.heap.size, 1, none⟩ = some (.int .i64 ay) ∧ w'.cell? ⟨w.heap.size + 1, 0, none⟩ = some (.int .i64 bx) ∧ w'.cell? ⟨w.heap.size + 1, 1, none⟩ = some (.int .i64 by') ∧ w'.cell? ⟨w.heap.size + 1 + 1, 0, none⟩ = some (.int .i64 cx) ∧ w'.cell? ⟨w.heap.size + 1 + 1, 1, none⟩ = some (.int .i64 cy))
      (first | exact HS.out | exact six_keep H3.out.2 (by assumption) | exact six_keep H2.out.2 (by assumption) | exact six_keep H1.out.2 (by assumption) | exact six_keep (New.alloc _ _) (by assumption) | exact six_keep (((((New.refl W).drew.trans' H1.out.2).trans' H2.out.2).trans' H3.out.2).alloc' _) HS.out | exact six_set (by have := H1.out.2.size; have := H2.out.2.size; simp at *; omega) (by assumption) | go_keep)
      (first
        | (go_at_call_of 39 bx; refine (gap_any' h3 h1).mono ?_; rintro e w1 ⟨n1, o1, m1, d1, rfl, H1⟩)
        | (go_at_call_of 39 cy; refine (gap_any' h6 h2).mono ?_; rintro e w2 ⟨n2, o2, m2, d2, rfl, H2⟩)
        | (go_at_call 38; refine (mul_num' (H1.out.1.kept H2.out.2) H2.out.1 (by omega)).mono ?_; rintro e w3 ⟨n3, o3, m3, d3, rfl, H3⟩; have rr := ((H1.out.2.trans' H2.out.2).trans' H3.out.2).rule; have rf := ((H1.out.2.trans' H2.out.2).trans' H3.out.2).frule)
        | (go_at_call 38; refine (mul_num' (H1.out.1.kept ((New.alloc _ _).trans' H2.out.2)) H2.out.1 (by omega)).mono ?_; rintro e w3 ⟨n3, o3, m3, d3, rfl, H3⟩; have rr := (H2.out.2.trans' H3.out.2).rule; have rf := (H2.out.2.trans' H3.out.2).frule)
        | (go_at_call 38; refine (mul_num' (H1.out.1.kept (H2.out.2.alloc' _)) (H2.out.1.kept (New.alloc _ _)) (by omega)).mono ?_; rintro e w3 ⟨n3, o3, m3, d3, rfl, H3⟩; have rr := H3.out.2.rule; have rf := H3.out.2.frule))
    · go_wp2_with fail
      go_meet
      exact varN_new ((((New.refl W).drew.trans' H1.out.2).trans' H2.out.2).trans' H3.out.2) H3.out.1
    · go_wp2_with fail
      go_meet
      exact varN_set (((New.refl W).drew.trans' H1.out.2).trans' H2.out.2) H3.out.2 H3.out.1
    · go_wp2_with fail
      go_meet
      exact varN_set ((New.refl W).drew.trans' H1.out.2) (H2.out.2.trans' H3.out.2) H3.out.1
    · go_wp2_with fail
      go_meet
      exact varN_set (wA := W.drew) (New.refl W).drew ((H1.out.2.trans' H2.out.2).trans' H3.out.2) H3.out.1
  case rest =>
  obtain ⟨g1, na, oa, ma, da, rfl, HA⟩ := hcut
  obtain ⟨V, hV⟩ : ∃ V, V = wc := ⟨_, rfl⟩
  rw [← hV] at HA ⊢
  clear hV
  have HS2 : Hid (w.heap.size + 1 + 1 < V.heap.size ∧ V.cell? ⟨w.heap.size, 0, none⟩ = some (.int .i64 ax) ∧ V.cell? ⟨w.heap.size, 1, none⟩ = some (.int .i64 ay) ∧ V.cell? ⟨w.heap.size + 1, 0, none⟩ = some (.int .i64 bx) ∧ V.cell? ⟨w.heap.size + 1, 1, none⟩ = some (.int .i64 by') ∧ V.cell? ⟨w.heap.size + 1 + 1, 0, none⟩ = some (.int .i64 cx) ∧ V.cell? ⟨w.heap.size + 1 + 1, 1, none⟩ = some (.int .i64 cy)) := six_keep HA.out.2.2 HS.out
  go_wp2_with fail
  go_cut [8] from 20 to 30 (fun s8 wx => VarN V ((by' - ay) * (cx - ax)) 9 s8 wx)
  case first =>
    have hS := HS2.out
    go_region_held3 (fun w' => w.heap.size + 1 + 1 < w'.heap.size ∧ w'.cell? ⟨w.heap.size, 0, none⟩ = some (.int .i64 ax) ∧ w'.cell? ⟨w.heap.size, 1, none⟩ = some (.int .i64 ay) ∧ w'.cell? ⟨w.heap.size + 1, 0, none⟩ = some (.int .i64 bx) ∧ w'.cell? ⟨w.heap.size + 1, 1, none⟩ = some (.int .i64 by') ∧ w'.cell? ⟨w.heap.size + 1 + 1, 0, none⟩ = some (.int .i64 cx) ∧ w'.cell? ⟨w.heap.size + 1 + 1, 1, none⟩ = some (.int .i64 cy))
      (first | exact HS2.out | exact six_keep H3.out.2 (by assumption) | exact six_keep H2.out.2 (by assumption) | exact six_keep H1.out.2 (by assumption) | exact six_keep (New.alloc _ _) (by assumption) | exact six_keep (((((New.refl V).drew.trans' H1.out.2).trans' H2.out.2).trans' H3.out.2).alloc' _) HS2.out | exact six_set (by have := H1.out.2.size; have := H2.out.2.size; simp at *; omega) (by assumption) | go_keep)
      (first
        | (go_at_call_of 39 by'; refine (gap_any' h4 h2).mono ?_; rintro e w1 ⟨n1, o1, m1, d1, rfl, H1⟩)
        | (go_at_call_of 39 cx; refine (gap_any' h5 h1).mono ?_; rintro e w2 ⟨n2, o2, m2, d2, rfl, H2⟩)
        | (go_at_call 38; refine (mul_num' (H1.out.1.kept H2.out.2) H2.out.1 (by omega)).mono ?_; rintro e w3 ⟨n3, o3, m3, d3, rfl, H3⟩; have rr := ((H1.out.2.trans' H2.out.2).trans' H3.out.2).rule; have rf := ((H1.out.2.trans' H2.out.2).trans' H3.out.2).frule)
        | (go_at_call 38; refine (mul_num' (H1.out.1.kept ((New.alloc _ _).trans' H2.out.2)) H2.out.1 (by omega)).mono ?_; rintro e w3 ⟨n3, o3, m3, d3, rfl, H3⟩; have rr := (H2.out.2.trans' H3.out.2).rule; have rf := (H2.out.2.trans' H3.out.2).frule)
        | (go_at_call 38; refine (mul_num' (H1.out.1.kept (H2.out.2.alloc' _)) (H2.out.1.kept (New.alloc _ _)) (by omega)).mono ?_; rintro e w3 ⟨n3, o3, m3, d3, rfl, H3⟩; have rr := H3.out.2.rule; have rf := H3.out.2.frule))
    · go_wp2_with fail
      go_meet
      exact varN_new ((((New.refl V).drew.trans' H1.out.2).trans' H2.out.2).trans' H3.out.2) H3.out.1
    · go_wp2_with fail
      go_meet
      exact varN_set (((New.refl V).drew.trans' H1.out.2).trans' H2.out.2) H3.out.2 H3.out.1
    · go_wp2_with fail
      go_meet
      exact varN_set ((New.refl V).drew.trans' H1.out.2) (H2.out.2.trans' H3.out.2) H3.out.1
    · go_wp2_with fail
      go_meet
      exact varN_set (wA := V.drew) (New.refl V).drew ((H1.out.2.trans' H2.out.2).trans' H3.out.2) H3.out.1
  case rest =>
  obtain ⟨g2, nb, ob, mb, db, rfl, HB⟩ := hcut
  obtain ⟨U, hU⟩ : ∃ U, U = wc := ⟨_, rfl⟩
  rw [← hU] at HB ⊢
  clear hU
  have hA := HA.out.1
  have HA2 : Hid (U.heap[g1]? = some (.cells #[.bool na, .slice oa ma da] 55 (0, 0)) ∧ Nu U (.agg #[.bool na, .slice oa ma da]) ((bx - ax) * (cy - ay)) 9 ∧ New w U) := ⟨by rw [HB.out.2.2.block _ (lt_of_block hA) (by simp)]; exact hA, HA.out.2.1.kept HB.out.2.2, (HW.out.1.trans' HA.out.2.2).trans' HB.out.2.2⟩
  have hF : g1 < U.heap.size ∧ g2 < U.heap.size ∧ U.cell? ⟨g1, 0, none⟩ = some (.bool na) ∧ U.cell? ⟨g1, 1, none⟩ = some (.slice oa ma da) ∧ U.cell? ⟨g2, 0, none⟩ = some (.bool nb) ∧ U.cell? ⟨g2, 1, none⟩ = some (.slice ob mb db) := ⟨lt_of_block HA2.out.1, lt_of_block HB.out.1, pair_cell0 HA2.out.1, pair_cell1 HA2.out.1, pair_cell0 HB.out.1, pair_cell1 HB.out.1⟩
  clear hA
  go_wp2_with fail
  go_region_held3 (fun w' => g1 < w'.heap.size ∧ g2 < w'.heap.size ∧ w'.cell? ⟨g1, 0, none⟩ = some (.bool na) ∧ w'.cell? ⟨g1, 1, none⟩ = some (.slice oa ma da) ∧ w'.cell? ⟨g2, 0, none⟩ = some (.bool nb) ∧ w'.cell? ⟨g2, 1, none⟩ = some (.slice ob mb db))
    (first | exact hF | exact four_keep H3.out (by assumption) | exact four_keep H2.out.2 (by assumption) | exact four_keep H1.out.2 (by assumption) | go_keep)
    (first
      | (go_at_call 42; refine (minus_num' (HB.out.2.1.kept ((New.refl U).drewN 1))).mono ?_; rintro e w1 ⟨n1, o1, m1, d1, rfl, H1⟩)
      | (go_at_call 41; refine (add_num' (HA2.out.2.1.kept ((New.refl U).drew.trans' H1.out.2)) H1.out.1 (by omega)).mono ?_; rintro e w2 ⟨n2, o2, m2, d2, rfl, H2⟩)
      | (go_at_call 40; refine (sign_num _ _ _ _ H2.out.1 (by omega)).mono ?_; rintro e w3 ⟨rfl, H3⟩))
  go_wp2_with fail
  go_ret
  refine ⟨?_, (((HA2.out.2.2.trans' ((New.refl U).drew.trans' H1.out.2)).trans' H2.out.2).trans' H3.out)⟩
  rw [det, Int.sub_eq_add_neg]; rfl

end Go.Proofs.Ytgeoffpcmkofkaa
/- The walks of plumbref's 'between', 'On', 'same'. -/
namespace Go.Proofs.Ytgeoffpcmkofkaa
open Go.RowKit Fl Dg
set_option maxRecDepth 100000

def btwB (a b c : Int) : Bool := decide (btw a b c)

set_option maxHeartbeats 800000 in
theorem between_any (a b c : Int) (w : World) : Calls Try.prog 65 #[.int .i64 a, .int .i64 b, .int .i64 c] w fun e w' => e = .returned (.bool (btwB a b c)) ∧ w = w' := by
  by_cases h1 : a ≤ c
  · by_cases h2 : c ≤ b
    · have HB : Hid (btwB a b c = true) := decide_eq_true (Or.inl ⟨h1, h2⟩)
      go_enter Try.func65, Try.ntmps65
      go_wp2_with fail
      go_ret
      exact ⟨by rw [HB.out]; rfl, rfl⟩
    · by_cases h3 : b ≤ c
      · by_cases h4 : c ≤ a
        · have HB : Hid (btwB a b c = true) := decide_eq_true (Or.inr ⟨h3, h4⟩)
          go_enter Try.func65, Try.ntmps65
          go_wp2_with fail
          go_ret
          exact ⟨by rw [HB.out]; simp, rfl⟩
        · have HB : Hid (btwB a b c = false) := decide_eq_false (by unfold btw; omega)
          go_enter Try.func65, Try.ntmps65
          go_wp2_with fail
          go_ret
          exact ⟨by rw [HB.out]; simp, rfl⟩
      · omega
  · by_cases h3 : b ≤ c
    · by_cases h4 : c ≤ a
      · have HB : Hid (btwB a b c = true) := decide_eq_true (Or.inr ⟨h3, h4⟩)
        go_enter Try.func65, Try.ntmps65
        go_wp2_with fail
        go_ret
        exact ⟨by rw [HB.out]; simp, rfl⟩
      · omega
    · have HB : Hid (btwB a b c = false) := decide_eq_false (by unfold btw; omega)
      go_enter Try.func65, Try.ntmps65
      go_wp2_with fail
      go_ret
      exact ⟨by rw [HB.out]; rfl, rfl⟩

def sameB (a b : Pt) : Bool := decide (a = b)

set_option maxHeartbeats 800000 in
theorem same_any (ax ay bx by' : Int) (w : World) : Calls Try.prog 49 #[.agg #[.int .i64 ax, .int .i64 ay], .agg #[.int .i64 bx, .int .i64 by']] w fun e w' => e = .returned (.bool (sameB (ax, ay) (bx, by'))) ∧ Hid (New w w') := by
  by_cases h1 : ax = bx
  · by_cases h2 : ay = by'
    · have HB : Hid (sameB (ax, ay) (bx, by') = true) := decide_eq_true (by rw [h1, h2])
      go_enter Try.func49, Try.ntmps49
      go_wp2_with fail
      go_ret
      exact ⟨by rw [HB.out]; simp [h2], (New.alloc _ _).alloc' _⟩
    · have HB : Hid (sameB (ax, ay) (bx, by') = false) := decide_eq_false (by rintro ⟨⟩; exact h2 rfl)
      go_enter Try.func49, Try.ntmps49
      go_wp2_with fail
      go_ret
      exact ⟨by rw [HB.out]; simp [h2], (New.alloc _ _).alloc' _⟩
  · have HB : Hid (sameB (ax, ay) (bx, by') = false) := decide_eq_false (by rintro ⟨⟩; exact h1 rfl)
    go_enter Try.func49, Try.ntmps49
    go_wp2_with fail
    go_ret
    exact ⟨by rw [HB.out]; rfl, (New.alloc _ _).alloc' _⟩

theorem onB_eq (a b p : Pt) : onB a b p = (btwB a.1 b.1 p.1 && btwB a.2 b.2 p.2 && decide (D a b p = 0)) := by
  rw [Bool.eq_iff_iff, onB, decide_eq_true_iff]
  simp [btwB, onP, and_assoc]

set_option maxHeartbeats 1600000 in
theorem on_any (ax ay bx by' px py : Int) (w : World) (h1 : Cd ax) (h2 : Cd ay) (h3 : Cd bx) (h4 : Cd by') (h5 : Cd px) (h6 : Cd py) :
    Calls Try.prog 48 #[.agg #[.int .i64 ax, .int .i64 ay], .agg #[.int .i64 bx, .int .i64 by'], .agg #[.int .i64 px, .int .i64 py]] w fun e w' => e = .returned (.bool (onB (ax, ay) (bx, by') (px, py))) ∧ Hid (New w w') := by
  have HC : Hid (Cd ax ∧ Cd ay ∧ Cd bx ∧ Cd by' ∧ Cd px ∧ Cd py) := ⟨h1, h2, h3, h4, h5, h6⟩
  have HE : Hid (onB (ax, ay) (bx, by') (px, py) = (btwB ax bx px && btwB ay by' py && decide (det ax ay bx by' px py = 0))) := onB_eq _ _ _
  clear h1 h2 h3 h4 h5 h6
  go_enter Try.func48, Try.ntmps48
  go_wp2_with fail
  refine (between_any ax bx px _).mono ?_
  rintro e w1 ⟨rfl, rfl⟩
  go_wp2_with fail
  refine (between_any ay by' py _).mono ?_
  rintro e w1 ⟨rfl, rfl⟩
  cases hx : btwB ax bx px with
  | false =>
    rw [hx] at HE
    go_wp2_with fail
    go_ret
    exact ⟨by rw [HE.out]; rfl, ((New.alloc _ _).alloc' _).alloc' _⟩
  | true =>
    cases hy : btwB ay by' py with
    | false =>
      rw [hx, hy] at HE
      go_wp2_with fail
      go_ret
      exact ⟨by rw [HE.out]; rfl, ((New.alloc _ _).alloc' _).alloc' _⟩
    | true =>
      rw [hx, hy] at HE
      go_wp2_with fail
      refine (refSide_any ax ay bx by' px py _ HC.out.1 HC.out.2.1 HC.out.2.2.1 HC.out.2.2.2.1 HC.out.2.2.2.2.1 HC.out.2.2.2.2.2).mono ?_
      rintro e w1 ⟨rfl, H1⟩
      by_cases hz : sgn (det ax ay bx by' px py) = 0
      · have HZ : Hid (decide (det ax ay bx by' px py = 0) = true) := decide_eq_true (sgn_zero.1 hz)
        go_wp2_with fail
        go_ret
        exact ⟨by rw [HE.out, HZ.out]; simp, (((New.alloc _ _).alloc' _).alloc' _).trans' H1.out⟩
      · have HZ : Hid (decide (det ax ay bx by' px py = 0) = false) := decide_eq_false (fun h => hz (sgn_zero.2 h))
        go_wp2_with fail
        go_ret
        exact ⟨by rw [HE.out, HZ.out]; simp [hz], (((New.alloc _ _).alloc' _).alloc' _).trans' H1.out⟩

end Go.Proofs.Ytgeoffpcmkofkaa
/- The walks of plumbref's 'Bad' and of the law 'Sides'. -/
namespace Go.Proofs.Ytgeoffpcmkofkaa
open Go.RowKit Fl Dg
set_option maxRecDepth 100000

theorem cd_cases (n : Int) : (n < -9007199254740992 ∧ cdB n = false) ∨ (9007199254740992 < n ∧ cdB n = false) ∨ (-9007199254740992 ≤ n ∧ n ≤ 9007199254740992 ∧ cdB n = true) := by
  by_cases h1 : n < -9007199254740992
  · exact Or.inl ⟨h1, by simp [cdB]; omega⟩
  · by_cases h2 : 9007199254740992 < n
    · exact Or.inr (Or.inl ⟨h2, by simp [cdB]; omega⟩)
    · exact Or.inr (Or.inr ⟨by omega, by omega, by simp [cdB]; omega⟩)

set_option maxHeartbeats 1600000 in
theorem bad_any (g off cap : Nat) (l : Pts) (w : World) (h : PtsAt w g off l) (hc : l.length ≤ cap) (hs : cap ≤ 100000000000000) :
    Calls Try.prog 12 #[.slice (some ⟨g, off, none⟩) l.length cap] w fun e w' => e = .returned (.bool (!okB l)) ∧ w = w' := by
  go_enter Try.func12, Try.ntmps12
  go_wp2_with fail
  go_loop [3] (fun i => ∃ k : Nat, i = .int .i64 k ∧ k ≤ l.length ∧ Hid (okB (l.take k) = true))
    (fun i => l.length - (intOf i).toNat)
  case atStart => exact ⟨0, rfl, Nat.zero_le _, rfl⟩
  case round =>
    obtain ⟨k, rfl, hle, H⟩ := hrel
    by_cases hk : k < l.length
    · have hc1 := (h k hk).1
      have hc2 := (h k hk).2
      obtain ⟨x, hx⟩ : ∃ x, x = l[k].1 := ⟨_, rfl⟩
      obtain ⟨y, hy⟩ : ∃ y, y = l[k].2 := ⟨_, rfl⟩
      rw [← hx] at hc1
      rw [← hy] at hc2
      have HX : Hid (x = l[k].1 ∧ y = l[k].2) := ⟨hx, hy⟩
      clear hx hy
      have fin : cdB x = false ∨ cdB y = false → (!okB l) = true := fun hh => by rw [okB_bad hk (by rw [← HX.out.1, ← HX.out.2]; exact hh)]; rfl
      have FIN : Hid (cdB x = false ∨ cdB y = false → (!okB l) = true) := fin
      clear fin
      rcases cd_cases x with ⟨q1, qx⟩ | ⟨q1, qx⟩ | ⟨q1, q2, qx⟩
      · have HF : Hid ((!okB l) = true) := FIN.out (Or.inl qx)
        clear qx
        go_wp2_with fail
        go_ret
        exact ⟨by rw [HF.out]; rfl, rfl⟩
      · have HF : Hid ((!okB l) = true) := FIN.out (Or.inl qx)
        clear qx
        go_wp2_with fail
        go_ret
        exact ⟨by rw [HF.out]; rfl, rfl⟩
      · have HQ : Hid (cdB x = true) := qx
        clear qx
        rcases cd_cases y with ⟨p1, py⟩ | ⟨p1, py⟩ | ⟨p1, p2, py⟩
        · have HF : Hid ((!okB l) = true) := FIN.out (Or.inr py)
          clear py
          go_wp2_with fail
          go_ret
          exact ⟨by rw [HF.out]; rfl, rfl⟩
        · have HF : Hid ((!okB l) = true) := FIN.out (Or.inr py)
          clear py
          go_wp2_with fail
          go_ret
          exact ⟨by rw [HF.out]; rfl, rfl⟩
        · have HP : Hid (cdB y = true) := py
          clear py
          go_wp2_with fail
          go_round
          case rel => exact ⟨k + 1, by go_num, hk, okB_take hk H.out (by rw [← HX.out.1]; exact HQ.out) (by rw [← HX.out.2]; exact HP.out)⟩
          case measure => simp [intOf]; omega
    · have hk2 : k = l.length := by omega
      subst hk2
      have HO : Hid (okB l = true) := by have := H.out; rwa [List.take_length] at this
      go_wp2_with fail
      go_ret
      exact ⟨by rw [HO.out]; rfl, rfl⟩

theorem bad3 (ax ay bx by' cx cy : Int) (W : World) (g : Nat) (hg : g = W.heap.size) :
    Calls Try.prog 12 #[.slice (some ⟨g, 0, none⟩) 3 3] (W.alloc (.cells #[.int .i64 ax, .int .i64 ay, .int .i64 bx, .int .i64 by', .int .i64 cx, .int .i64 cy] 23)) fun e w' =>
      e = .returned (.bool (!okB [(ax, ay), (bx, by'), (cx, cy)])) ∧ Hid (New W w') := by
  subst hg
  refine (bad_any W.heap.size 0 3 [(ax, ay), (bx, by'), (cx, cy)] _ (ptsAt3 (_root_.Go.heap_alloc_new W _)) (by simp) (by omega)).mono ?_
  rintro e w1 ⟨rfl, rfl⟩
  exact ⟨rfl, New.alloc W _⟩

theorem bad4 (ax ay bx by' cx cy dx dy : Int) (W : World) (g : Nat) (hg : g = W.heap.size) :
    Calls Try.prog 12 #[.slice (some ⟨g, 0, none⟩) 4 4] (W.alloc (.cells #[.int .i64 ax, .int .i64 ay, .int .i64 bx, .int .i64 by', .int .i64 cx, .int .i64 cy, .int .i64 dx, .int .i64 dy] 23)) fun e w' =>
      e = .returned (.bool (!okB [(ax, ay), (bx, by'), (cx, cy), (dx, dy)])) ∧ Hid (New W w') := by
  subst hg
  refine (bad_any W.heap.size 0 4 [(ax, ay), (bx, by'), (cx, cy), (dx, dy)] _ (ptsAt4 (_root_.Go.heap_alloc_new W _)) (by simp) (by omega)).mono ?_
  rintro e w1 ⟨rfl, rfl⟩
  exact ⟨rfl, New.alloc W _⟩

set_option maxHeartbeats 1600000 in
theorem sides_bad (ax ay bx by' cx cy : Int) (w : World) (hok : okB [(ax, ay), (bx, by'), (cx, cy)] = false) :
    Calls Try.prog 3 #[.agg #[.int .i64 ax, .int .i64 ay], .agg #[.int .i64 bx, .int .i64 by'], .agg #[.int .i64 cx, .int .i64 cy]] w fun e w' => e = .returned (.bool true) ∧ Hid (New w w') := by
  have HO : Hid (okB [(ax, ay), (bx, by'), (cx, cy)] = false) := hok
  have HN : Hid ((!okB [(ax, ay), (bx, by'), (cx, cy)]) = true) := by rw [Hid, hok]; rfl
  clear hok
  go_enter Try.func3, Try.ntmps3
  go_wp2_with fail
  refine (side_bad ax ay bx by' cx cy _ HO.out).mono ?_
  rintro e w1 ⟨rfl, H1⟩
  have r1 := H1.out.rule
  go_wp2_with fail
  refine (bad3 ax ay bx by' cx cy _ _ (by simp)).mono ?_
  rintro e w2 ⟨rfl, H2⟩
  have hN := HN.out
  clear r1
  go_wp2_with fail
  go_ret
  exact ⟨rfl, ((((New.alloc _ _).alloc' _).alloc' _).trans' H1.out).trans' H2.out⟩

set_option maxHeartbeats 1600000 in
theorem sides_ok (ax ay bx by' cx cy : Int) (w : World) (hok : okB [(ax, ay), (bx, by'), (cx, cy)] = true) :
    Calls Try.prog 3 #[.agg #[.int .i64 ax, .int .i64 ay], .agg #[.int .i64 bx, .int .i64 by'], .agg #[.int .i64 cx, .int .i64 cy]] w fun e w' => e = .returned (.bool true) ∧ Hid (New w w') := by
  have HO : Hid (okB [(ax, ay), (bx, by'), (cx, cy)] = true) := hok
  have HN : Hid ((!okB [(ax, ay), (bx, by'), (cx, cy)]) = false) := by rw [Hid, hok]; rfl
  have HC : Hid ((Cd ax ∧ Cd ay) ∧ (Cd bx ∧ Cd by') ∧ (Cd cx ∧ Cd cy)) := ⟨okB_cd hok (p := (ax, ay)) (by simp), okB_cd hok (p := (bx, by')) (by simp), okB_cd hok (p := (cx, cy)) (by simp)⟩
  clear hok
  go_enter Try.func3, Try.ntmps3
  go_wp2_with fail
  refine (side_ok ax ay bx by' cx cy _ HO.out).mono ?_
  rintro e w1 ⟨rfl, H1⟩
  have r1 := H1.out.rule
  go_wp2_with fail
  refine (bad3 ax ay bx by' cx cy _ _ (by simp)).mono ?_
  rintro e w2 ⟨rfl, H2⟩
  have hN := HN.out
  have r2 := (H1.out.trans' H2.out).rule
  clear r1
  go_wp2_with fail
  refine (refSide_any ax ay bx by' cx cy _ HC.out.1.1 HC.out.1.2 HC.out.2.1.1 HC.out.2.1.2 HC.out.2.2.1 HC.out.2.2.2).mono ?_
  rintro e w3 ⟨rfl, H3⟩
  clear r2
  go_wp2_with fail
  go_ret
  exact ⟨rfl, (((((New.alloc _ _).alloc' _).alloc' _).trans' H1.out).trans' H2.out).trans' H3.out⟩

theorem sides_any (ax ay bx by' cx cy : Int) (w : World) :
    Calls Try.prog 3 #[.agg #[.int .i64 ax, .int .i64 ay], .agg #[.int .i64 bx, .int .i64 by'], .agg #[.int .i64 cx, .int .i64 cy]] w fun e w' => e = .returned (.bool true) ∧ Hid (New w w') := by
  cases hok : okB [(ax, ay), (bx, by'), (cx, cy)] with
  | true => exact sides_ok ax ay bx by' cx cy w hok
  | false => exact sides_bad ax ay bx by' cx cy w hok

end Go.Proofs.Ytgeoffpcmkofkaa
