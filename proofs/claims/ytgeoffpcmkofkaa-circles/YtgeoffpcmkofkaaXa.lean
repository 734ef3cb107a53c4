/- The walks of plumbref's 'square' and 'minor'. -/
import Derived.Test.YtgeoffpcmkofkaaWs
namespace Go.Proofs.Ytgeoffpcmkofkaa
open Go.RowKit Fl Dg
set_option maxRecDepth 100000

/-- A variable of type Num, made behind W, holds a number. -/
def VarM (W : World) (x : Int) (L : Nat) (v : Value) (wx : World) : Prop := ∃ (b : Nat) (neg : Bool) (ao : Option Addr) (m c : Nat), v = .pointer (some ⟨b, 0, none⟩) ∧ Hid (wx.heap[b]? = some (.cells #[.bool neg, .slice ao m c] 55 (0, 0)) ∧ Nu wx (.agg #[.bool neg, .slice ao m c]) x L ∧ New W wx ∧ W.heap.size ≤ b)

theorem varM_set {W wA w3 : World} {x : Int} {L : Nat} {neg : Bool} {ao : Option Addr} {m c : Nat} (hW : New W wA) (h : New (wA.alloc (.cells #[.bool false, .slice none 0 0] 55)) w3) (hnu : Nu w3 (.agg #[.bool neg, .slice ao m c]) x L) :
    VarM W x L (.pointer (some ⟨wA.heap.size, 0, none⟩)) ((w3.setCell ⟨wA.heap.size, 0, none⟩ (.bool neg)).setCell ⟨wA.heap.size, 1, none⟩ (.slice ao m c)) := by
  have hz : w3.heap[wA.heap.size]? = some (.cells #[.bool false, .slice none 0 0] 55 (0, 0)) := by
    rw [h.block _ (by simp) (by simp)]; exact _root_.Go.heap_alloc_new wA _
  have hN : New W w3 := (hW.alloc' _).trans' h
  obtain ⟨n, e, H⟩ := nu_stored hN hW.size hnu hz
  cases e
  exact ⟨_, neg, ao, m, c, rfl, pair_set1 (pair_set0 hz), H.out.1, H.out.2, hW.size⟩

theorem varM_new {W w3 : World} {x : Int} {L : Nat} {neg : Bool} {ao : Option Addr} {m c : Nat} (hW : New W w3) (hnu : Nu w3 (.agg #[.bool neg, .slice ao m c]) x L) :
    VarM W x L (.pointer (some ⟨w3.heap.size, 0, none⟩)) (w3.alloc (.cells #[.bool neg, .slice ao m c] 55)) :=
  ⟨_, neg, ao, m, c, rfl, _root_.Go.heap_alloc_new w3 _, hnu.kept (New.alloc _ _), hW.alloc' _, hW.size⟩

theorem four_set {W : World} {g k b : Nat} {p q r s x y : Value} (hg : g ≠ b) (hk : k ≠ b) (hs : g < W.heap.size ∧ k < W.heap.size ∧ W.cell? ⟨g, 0, none⟩ = some p ∧ W.cell? ⟨g, 1, none⟩ = some q ∧ W.cell? ⟨k, 0, none⟩ = some r ∧ W.cell? ⟨k, 1, none⟩ = some s) :
    g < ((W.setCell ⟨b, 0, none⟩ x).setCell ⟨b, 1, none⟩ y).heap.size ∧ k < ((W.setCell ⟨b, 0, none⟩ x).setCell ⟨b, 1, none⟩ y).heap.size ∧ ((W.setCell ⟨b, 0, none⟩ x).setCell ⟨b, 1, none⟩ y).cell? ⟨g, 0, none⟩ = some p ∧ ((W.setCell ⟨b, 0, none⟩ x).setCell ⟨b, 1, none⟩ y).cell? ⟨g, 1, none⟩ = some q ∧ ((W.setCell ⟨b, 0, none⟩ x).setCell ⟨b, 1, none⟩ y).cell? ⟨k, 0, none⟩ = some r ∧ ((W.setCell ⟨b, 0, none⟩ x).setCell ⟨b, 1, none⟩ y).cell? ⟨k, 1, none⟩ = some s := by
  obtain ⟨h0, h1, h2, h3, h4, h5⟩ := hs
  have key : ∀ c o, c ≠ b → ((W.setCell ⟨b, 0, none⟩ x).setCell ⟨b, 1, none⟩ y).cell? ⟨c, o, none⟩ = W.cell? ⟨c, o, none⟩ := fun c o hc =>
    World.cell?_of_block (a := ⟨c, o, none⟩) ((heap_setCell_other _ ⟨b, 1, none⟩ c y hc).trans (heap_setCell_other W ⟨b, 0, none⟩ c x hc))
  refine ⟨by simpa [World.setCell] using h0, by simpa [World.setCell] using h1, ?_, ?_, ?_, ?_⟩
  · rw [key _ _ hg]; assumption
  · rw [key _ _ hg]; assumption
  · rw [key _ _ hk]; assumption
  · rw [key _ _ hk]; assumption

set_option maxHeartbeats 6400000 in
theorem minor_any (ax ay bx by' cx cy : Int) (w : World) (h1 : Cd ax) (h2 : Cd ay) (h3 : Cd bx) (h4 : Cd by') (h5 : Cd cx) (h6 : Cd cy) :
    Calls Try.prog 45 #[.agg #[.int .i64 ax, .int .i64 ay], .agg #[.int .i64 bx, .int .i64 by'], .agg #[.int .i64 cx, .int .i64 cy]] w fun e w' =>
      NuRet w ((ax - cx) * (by' - cy) - (bx - cx) * (ay - cy)) 10 e w' := by
  obtain ⟨W, hW⟩ : ∃ W, W = (((w.alloc (.cells #[.int .i64 ax, .int .i64 ay] 23)).alloc (.cells #[.int .i64 bx, .int .i64 by'] 23)).alloc (.cells #[.int .i64 cx, .int .i64 cy] 23)).alloc (.cells #[.bool false, .slice none 0 0] 55) := ⟨_, rfl⟩
  have HW : Hid (New w W ∧ W.heap.size = w.heap.size + 4 ∧ W.heap[w.heap.size + 1 + 1 + 1]? = some (.cells #[.bool false, .slice none 0 0] 55 (0, 0))) := by
    refine ⟨by rw [hW]; exact (((New.alloc _ _).alloc' _).alloc' _).alloc' _, by rw [hW]; simp, ?_⟩
    have := _root_.Go.heap_alloc_new (((w.alloc (.cells #[.int .i64 ax, .int .i64 ay] 23)).alloc (.cells #[.int .i64 bx, .int .i64 by'] 23)).alloc (.cells #[.int .i64 cx, .int .i64 cy] 23)) (.cells #[.bool false, .slice none 0 0] 55)
    rw [hW]; simpa using this
  have HS : Hid (w.heap.size + 1 + 1 < W.heap.size ∧ W.cell? ⟨w.heap.size, 0, none⟩ = some (.int .i64 ax) ∧ W.cell? ⟨w.heap.size, 1, none⟩ = some (.int .i64 ay) ∧ W.cell? ⟨w.heap.size + 1, 0, none⟩ = some (.int .i64 bx) ∧ W.cell? ⟨w.heap.size + 1, 1, none⟩ = some (.int .i64 by') ∧ W.cell? ⟨w.heap.size + 1 + 1, 0, none⟩ = some (.int .i64 cx) ∧ W.cell? ⟨w.heap.size + 1 + 1, 1, none⟩ = some (.int .i64 cy)) := by
    refine ⟨by have := HW.out.2.1; omega, ?_, ?_, ?_, ?_, ?_, ?_⟩ <;> (rw [hW]; go_simp)
  go_enter Try.func45, Try.ntmps45
  go_wp2_with fail
  rw [← hW]
  clear hW
  go_cut [7] from 9 to 19 (fun s7 wx => VarM W ((ax - cx) * (by' - cy)) 9 s7 wx)
  case first =>
    have hS := HS.out
    go_region_held3 (fun w' => w.heap.size + 1 + 1 < w'.heap.size ∧ w'.cell? ⟨w.heap.size, 0, none⟩ = some (.int .i64 ax) ∧ w'.cell? ⟨w.heap.size, 1, none⟩ = some (.int .i64 ay) ∧ w'.cell? ⟨w.heap.size + 1, 0, none⟩ = some (.int .i64 bx) ∧ w'.cell? ⟨w.heap.size + 1, 1, none⟩ = some (.int .i64 by') ∧ w'.cell? ⟨w.heap.size + 1 + 1, 0, none⟩ = some (.int .i64 cx) ∧ w'.cell? ⟨w.heap.size + 1 + 1, 1, none⟩ = some (.int .i64 cy))
      (first | exact HS.out | exact six_keep H3.out.2 (by assumption) | exact six_keep H2.out.2 (by assumption) | exact six_keep H1.out.2 (by assumption) | exact six_keep (New.alloc _ _) (by assumption) | exact six_keep (((((New.refl W).drew.trans' H1.out.2).trans' H2.out.2).trans' H3.out.2).alloc' _) HS.out | exact six_set (by have := H1.out.2.size; have := H2.out.2.size; simp at *; omega) (by assumption) | go_keep)
      (first
        | (go_at_call_of 39 ax; refine (gap_any' h1 h5).mono ?_; rintro e w1 ⟨n1, o1, m1, d1, rfl, H1⟩)
        | (go_at_call_of 39 by'; refine (gap_any' h4 h6).mono ?_; rintro e w2 ⟨n2, o2, m2, d2, rfl, H2⟩)
        | (go_at_call 38; refine (mul_num' (H1.out.1.kept H2.out.2) H2.out.1 (by omega)).mono ?_; rintro e w3 ⟨n3, o3, m3, d3, rfl, H3⟩; have rr := ((H1.out.2.trans' H2.out.2).trans' H3.out.2).rule; have rf := ((H1.out.2.trans' H2.out.2).trans' H3.out.2).frule)
        | (go_at_call 38; refine (mul_num' (H1.out.1.kept ((New.alloc _ _).trans' H2.out.2)) H2.out.1 (by omega)).mono ?_; rintro e w3 ⟨n3, o3, m3, d3, rfl, H3⟩; have rr := (H2.out.2.trans' H3.out.2).rule; have rf := (H2.out.2.trans' H3.out.2).frule)
        | (go_at_call 38; refine (mul_num' (H1.out.1.kept (H2.out.2.alloc' _)) (H2.out.1.kept (New.alloc _ _)) (by omega)).mono ?_; rintro e w3 ⟨n3, o3, m3, d3, rfl, H3⟩; have rr := H3.out.2.rule; have rf := H3.out.2.frule))
    · go_wp2_with fail
      go_meet
      exact varM_new ((((New.refl W).drew.trans' H1.out.2).trans' H2.out.2).trans' H3.out.2) H3.out.1
    · go_wp2_with fail
      go_meet
      exact varM_set (((New.refl W).drew.trans' H1.out.2).trans' H2.out.2) H3.out.2 H3.out.1
    · go_wp2_with fail
      go_meet
      exact varM_set ((New.refl W).drew.trans' H1.out.2) (H2.out.2.trans' H3.out.2) H3.out.1
    · go_wp2_with fail
      go_meet
      exact varM_set (wA := W.drew) (New.refl W).drew ((H1.out.2.trans' H2.out.2).trans' H3.out.2) H3.out.1
  case rest =>
  obtain ⟨g1, na, oa, ma, da, rfl, HA⟩ := hcut
  obtain ⟨V, hV⟩ : ∃ V, V = wc := ⟨_, rfl⟩
  rw [← hV] at HA ⊢
  clear hV
  have HS2 : Hid (w.heap.size + 1 + 1 < V.heap.size ∧ V.cell? ⟨w.heap.size, 0, none⟩ = some (.int .i64 ax) ∧ V.cell? ⟨w.heap.size, 1, none⟩ = some (.int .i64 ay) ∧ V.cell? ⟨w.heap.size + 1, 0, none⟩ = some (.int .i64 bx) ∧ V.cell? ⟨w.heap.size + 1, 1, none⟩ = some (.int .i64 by') ∧ V.cell? ⟨w.heap.size + 1 + 1, 0, none⟩ = some (.int .i64 cx) ∧ V.cell? ⟨w.heap.size + 1 + 1, 1, none⟩ = some (.int .i64 cy)) := six_keep HA.out.2.2.1 HS.out
  go_wp2_with fail
  go_cut [8] from 20 to 30 (fun s8 wx => VarM V ((bx - cx) * (ay - cy)) 9 s8 wx)
  case first =>
    have hS := HS2.out
    go_region_held3 (fun w' => w.heap.size + 1 + 1 < w'.heap.size ∧ w'.cell? ⟨w.heap.size, 0, none⟩ = some (.int .i64 ax) ∧ w'.cell? ⟨w.heap.size, 1, none⟩ = some (.int .i64 ay) ∧ w'.cell? ⟨w.heap.size + 1, 0, none⟩ = some (.int .i64 bx) ∧ w'.cell? ⟨w.heap.size + 1, 1, none⟩ = some (.int .i64 by') ∧ w'.cell? ⟨w.heap.size + 1 + 1, 0, none⟩ = some (.int .i64 cx) ∧ w'.cell? ⟨w.heap.size + 1 + 1, 1, none⟩ = some (.int .i64 cy))
      (first | exact HS2.out | exact six_keep H3.out.2 (by assumption) | exact six_keep H2.out.2 (by assumption) | exact six_keep H1.out.2 (by assumption) | exact six_keep (New.alloc _ _) (by assumption) | exact six_keep (((((New.refl V).drew.trans' H1.out.2).trans' H2.out.2).trans' H3.out.2).alloc' _) HS2.out | exact six_set (by have := H1.out.2.size; have := H2.out.2.size; simp at *; omega) (by assumption) | go_keep)
      (first
        | (go_at_call_of 39 bx; refine (gap_any' h3 h5).mono ?_; rintro e w1 ⟨n1, o1, m1, d1, rfl, H1⟩)
        | (go_at_call_of 39 ay; refine (gap_any' h2 h6).mono ?_; rintro e w2 ⟨n2, o2, m2, d2, rfl, H2⟩)
        | (go_at_call 38; refine (mul_num' (H1.out.1.kept H2.out.2) H2.out.1 (by omega)).mono ?_; rintro e w3 ⟨n3, o3, m3, d3, rfl, H3⟩; have rr := ((H1.out.2.trans' H2.out.2).trans' H3.out.2).rule; have rf := ((H1.out.2.trans' H2.out.2).trans' H3.out.2).frule)
        | (go_at_call 38; refine (mul_num' (H1.out.1.kept ((New.alloc _ _).trans' H2.out.2)) H2.out.1 (by omega)).mono ?_; rintro e w3 ⟨n3, o3, m3, d3, rfl, H3⟩; have rr := (H2.out.2.trans' H3.out.2).rule; have rf := (H2.out.2.trans' H3.out.2).frule)
        | (go_at_call 38; refine (mul_num' (H1.out.1.kept (H2.out.2.alloc' _)) (H2.out.1.kept (New.alloc _ _)) (by omega)).mono ?_; rintro e w3 ⟨n3, o3, m3, d3, rfl, H3⟩; have rr := H3.out.2.rule; have rf := H3.out.2.frule))
    · go_wp2_with fail
      go_meet
      exact varM_new ((((New.refl V).drew.trans' H1.out.2).trans' H2.out.2).trans' H3.out.2) H3.out.1
    · go_wp2_with fail
      go_meet
      exact varM_set (((New.refl V).drew.trans' H1.out.2).trans' H2.out.2) H3.out.2 H3.out.1
    · go_wp2_with fail
      go_meet
      exact varM_set ((New.refl V).drew.trans' H1.out.2) (H2.out.2.trans' H3.out.2) H3.out.1
    · go_wp2_with fail
      go_meet
      exact varM_set (wA := V.drew) (New.refl V).drew ((H1.out.2.trans' H2.out.2).trans' H3.out.2) H3.out.1
  case rest =>
  obtain ⟨g2, nb, ob, mb, db, rfl, HB⟩ := hcut
  obtain ⟨U, hU⟩ : ∃ U, U = wc := ⟨_, rfl⟩
  rw [← hU] at HB ⊢
  clear hU
  have HA2 : Hid (U.heap[g1]? = some (.cells #[.bool na, .slice oa ma da] 55 (0, 0)) ∧ Nu U (.agg #[.bool na, .slice oa ma da]) ((ax - cx) * (by' - cy)) 9 ∧ New W U) := ⟨by rw [HB.out.2.2.1.block _ (lt_of_block HA.out.1) (by simp)]; exact HA.out.1, HA.out.2.1.kept HB.out.2.2.1, HA.out.2.2.1.trans' HB.out.2.2.1⟩
  have hF : g1 < U.heap.size ∧ g2 < U.heap.size ∧ U.cell? ⟨g1, 0, none⟩ = some (.bool na) ∧ U.cell? ⟨g1, 1, none⟩ = some (.slice oa ma da) ∧ U.cell? ⟨g2, 0, none⟩ = some (.bool nb) ∧ U.cell? ⟨g2, 1, none⟩ = some (.slice ob mb db) := ⟨lt_of_block HA2.out.1, lt_of_block HB.out.1, pair_cell0 HA2.out.1, pair_cell1 HA2.out.1, pair_cell0 HB.out.1, pair_cell1 HB.out.1⟩
  have hne1 : g1 ≠ w.heap.size + 1 + 1 + 1 := by have := HA.out.2.2.2; have := HW.out.2.1; omega
  have hne2 : g2 ≠ w.heap.size + 1 + 1 + 1 := by have := HB.out.2.2.2; have := HA.out.2.2.1.size; have := HW.out.2.1; omega
  have HNE : Hid (g1 ≠ w.heap.size + 1 + 1 + 1 ∧ g2 ≠ w.heap.size + 1 + 1 + 1) := ⟨hne1, hne2⟩
  clear hne1 hne2
  go_wp2_with fail
  go_region_held3 (fun w' => g1 < w'.heap.size ∧ g2 < w'.heap.size ∧ w'.cell? ⟨g1, 0, none⟩ = some (.bool na) ∧ w'.cell? ⟨g1, 1, none⟩ = some (.slice oa ma da) ∧ w'.cell? ⟨g2, 0, none⟩ = some (.bool nb) ∧ w'.cell? ⟨g2, 1, none⟩ = some (.slice ob mb db))
    (first | exact hF | exact four_keep H2.out.2 (by assumption) | exact four_keep H1.out.2 (by assumption) | exact four_set HNE.out.1 HNE.out.2 (by assumption) | go_keep)
    (first
      | (go_at_call 42; refine (minus_num' (HB.out.2.1.kept ((New.refl U).drewN 1))).mono ?_; rintro e w1 ⟨n1, o1, m1, d1, rfl, H1⟩)
      | (go_at_call 41; refine (add_num' (HA2.out.2.1.kept ((New.refl U).drew.trans' H1.out.2)) H1.out.1 (by omega)).mono ?_; rintro e w2 ⟨n2, o2, m2, d2, rfl, H2⟩; have hR := HW.out.2.2; have hz := ((HA2.out.2.2.drew.trans' H1.out.2).trans' H2.out.2).block _ (lt_of_block hR) (by simp); rw [hR] at hz; have qr0 := pair_cell0 hz; have qr1 := pair_cell1 hz; have qf0 := pair_free (o := 0) hz; have qf1 := pair_free (o := 1) hz; clear hR hz))
  have hz : w2.heap[w.heap.size + 1 + 1 + 1]? = some (.cells #[.bool false, .slice none 0 0] 55 (0, 0)) := by
    rw [((HA2.out.2.2.drew.trans' H1.out.2).trans' H2.out.2).block _ (lt_of_block HW.out.2.2) (by simp)]; exact HW.out.2.2
  have HZ : Hid (w2.heap[w.heap.size + 1 + 1 + 1]? = some (.cells #[.bool false, .slice none 0 0] 55 (0, 0))) := hz
  have qr0 := pair_cell0 hz
  have qr1 := pair_cell1 hz
  clear hz
  go_wp2_with fail
  refine bodyPost_ret (v := .agg #[.bool n2, .slice o2 m2 d2]) (by simp [results, Try.results45, go_sem, qr0, qr1]) rfl ?_
  have hx : (ax - cx) * (by' - cy) - (bx - cx) * (ay - cy) = (ax - cx) * (by' - cy) + -((bx - cx) * (ay - cy)) := Int.sub_eq_add_neg
  rw [hx]
  exact nu_stored (HW.out.1.trans' ((HA2.out.2.2.drew.trans' H1.out.2).trans' H2.out.2)) (by omega) H2.out.1 HZ.out

set_option maxHeartbeats 3200000 in
theorem square_any (ax ay dx dy : Int) (w : World) (h1 : Cd ax) (h2 : Cd ay) (h3 : Cd dx) (h4 : Cd dy) :
    Calls Try.prog 44 #[.agg #[.int .i64 ax, .int .i64 ay], .agg #[.int .i64 dx, .int .i64 dy]] w fun e w' =>
      NuRet w ((ax - dx) * (ax - dx) + (ay - dy) * (ay - dy)) 10 e w' := by
  go_enter Try.func44, Try.ntmps44
  go_wp2_with fail
  refine (gap_any' h1 h3).mono ?_
  rintro e w1 ⟨na, oa, ma, da, rfl, H1⟩
  have r1 := H1.out.2.rule
  have hz0 : w.heap.size < w1.heap.size := by have := H1.out.2.size; simp at this; omega
  have hz1 : w.heap.size + 1 < w1.heap.size := by have := H1.out.2.size; simp at this; omega
  go_wp2_with fail
  refine (gap_any' h2 h4).mono ?_
  rintro e w2 ⟨nb, ob, mb, db, rfl, H2⟩
  obtain ⟨g1, hg1⟩ : ∃ g, g = w1.heap.size := ⟨_, rfl⟩
  obtain ⟨g2, hg2⟩ : ∃ g, g = w2.heap.size := ⟨_, rfl⟩
  obtain ⟨U, hU⟩ : ∃ U, U = w2.alloc (.cells #[.bool nb, .slice ob mb db] 55) := ⟨_, rfl⟩
  have HB1 : Hid (U.heap[g1]? = some (.cells #[.bool na, .slice oa ma da] 55 (0, 0)) ∧ Nu U (.agg #[.bool na, .slice oa ma da]) (ax - dx) 4) := by
    refine ⟨?_, by rw [hU]; exact ((H1.out.1.kept (New.alloc _ _)).kept H2.out.2).kept (New.alloc _ _)⟩
    rw [hU, hg1, (H2.out.2.alloc' _).block _ (by simp) (by simp)]; exact _root_.Go.heap_alloc_new w1 _
  have HB2 : Hid (U.heap[g2]? = some (.cells #[.bool nb, .slice ob mb db] 55 (0, 0)) ∧ Nu U (.agg #[.bool nb, .slice ob mb db]) (ay - dy) 4) := by
    refine ⟨by rw [hU, hg2]; exact _root_.Go.heap_alloc_new w2 _, by rw [hU]; exact H2.out.1.kept (New.alloc _ _)⟩
  have HW : Hid (New w U ∧ U.heap[w.heap.size + 1 + 1]? = some (.cells #[.bool false, .slice none 0 0] 55 (0, 0)) ∧ g1 ≠ w.heap.size + 1 + 1 ∧ g2 ≠ w.heap.size + 1 + 1) := by
    have hN : New (((w.alloc (.cells #[.int .i64 ax, .int .i64 ay] 23)).alloc (.cells #[.int .i64 dx, .int .i64 dy] 23)).alloc (.cells #[.bool false, .slice none 0 0] 55)) U := by rw [hU]; exact ((H1.out.2.alloc' _).trans' H2.out.2).alloc' _
    have s1 := H1.out.2.size
    have s2 := H2.out.2.size
    simp at s1 s2
    refine ⟨(((New.alloc w _).alloc' _).alloc' _).trans' hN, ?_, by omega, by omega⟩
    rw [hN.block _ (by simp) (by simp)]
    have := _root_.Go.heap_alloc_new ((w.alloc (.cells #[.int .i64 ax, .int .i64 ay] 23)).alloc (.cells #[.int .i64 dx, .int .i64 dy] 23)) (.cells #[.bool false, .slice none 0 0] 55)
    simpa using this
  have hF : g1 < U.heap.size ∧ g2 < U.heap.size ∧ U.cell? ⟨g1, 0, none⟩ = some (.bool na) ∧ U.cell? ⟨g1, 1, none⟩ = some (.slice oa ma da) ∧ U.cell? ⟨g2, 0, none⟩ = some (.bool nb) ∧ U.cell? ⟨g2, 1, none⟩ = some (.slice ob mb db) := ⟨lt_of_block HB1.out.1, lt_of_block HB2.out.1, pair_cell0 HB1.out.1, pair_cell1 HB1.out.1, pair_cell0 HB2.out.1, pair_cell1 HB2.out.1⟩
  clear r1 hz0 hz1
  go_wp2_with fail
  rw [← hU, ← hg1, ← hg2]
  clear hU hg1 hg2
  go_region_held3 (fun w' => g1 < w'.heap.size ∧ g2 < w'.heap.size ∧ w'.cell? ⟨g1, 0, none⟩ = some (.bool na) ∧ w'.cell? ⟨g1, 1, none⟩ = some (.slice oa ma da) ∧ w'.cell? ⟨g2, 0, none⟩ = some (.bool nb) ∧ w'.cell? ⟨g2, 1, none⟩ = some (.slice ob mb db))
    (first | exact hF | exact four_keep H5.out.2 (by assumption) | exact four_keep H4.out.2 (by assumption) | exact four_keep H3.out.2 (by assumption) | exact four_set HW.out.2.2.1 HW.out.2.2.2 (by assumption) | go_keep)
    (first
      | (go_at_call 41; refine (add_num' (H3.out.1.kept H4.out.2) H4.out.1 (by omega)).mono ?_; rintro e w5 ⟨n5, o5, m5, d5, rfl, H5⟩; have hR := HW.out.2.1; have hz := ((((New.refl U).drew.trans' H3.out.2).trans' H4.out.2).trans' H5.out.2).block _ (lt_of_block hR) (by simp); rw [hR] at hz; have qr0 := pair_cell0 hz; have qr1 := pair_cell1 hz; have qf0 := pair_free (o := 0) hz; have qf1 := pair_free (o := 1) hz; clear hR hz)
      | (go_at_call 38; refine (mul_num' ((HB2.out.2.kept ((New.refl U).drewN 1)).kept H3.out.2) ((HB2.out.2.kept ((New.refl U).drewN 1)).kept H3.out.2) (by omega)).mono ?_; rintro e w4 ⟨n4, o4, m4, d4, rfl, H4⟩)
      | (go_at_call 38; refine (mul_num' (HB1.out.2.kept ((New.refl U).drewN 1)) (HB1.out.2.kept ((New.refl U).drewN 1)) (by omega)).mono ?_; rintro e w3 ⟨n3, o3, m3, d3, rfl, H3⟩))
  have hz : w5.heap[w.heap.size + 1 + 1]? = some (.cells #[.bool false, .slice none 0 0] 55 (0, 0)) := by
    rw [((((New.refl U).drew.trans' H3.out.2).trans' H4.out.2).trans' H5.out.2).block _ (lt_of_block HW.out.2.1) (by simp)]; exact HW.out.2.1
  have HZ : Hid (w5.heap[w.heap.size + 1 + 1]? = some (.cells #[.bool false, .slice none 0 0] 55 (0, 0))) := hz
  have qr0 := pair_cell0 hz
  have qr1 := pair_cell1 hz
  clear hz
  go_wp2_with fail
  refine bodyPost_ret (v := .agg #[.bool n5, .slice o5 m5 d5]) (by simp [results, Try.results44, go_sem, qr0, qr1]) rfl ?_
  exact nu_stored (HW.out.1.trans' ((((New.refl U).drew.trans' H3.out.2).trans' H4.out.2).trans' H5.out.2)) (by omega) H5.out.1 HZ.out

end Go.Proofs.Ytgeoffpcmkofkaa
