/- Ya; Yb; Yc; Yd: texts laid into one. -/
import Derived.Test.YtgeoffpcmkofkaaRae
import Derived.Deep.RegionHeld3
import Derived.Deep.DrawnRows
import Derived.Test.YtgeoffpcmkofkaaRaf
/- The walks of package order, with 'Compare' and 'Or' of package cmp. -/
namespace Go.Proofs.Ytgeoffpcmkofkaa
open Go.RowKit Fl
set_option maxRecDepth 100000
attribute [local go_sem ↓] Go.wp_at_zero Go.wp_at_succ

set_option maxHeartbeats 400000 in
theorem isNaN_any (x : Int) (w : World) : Calls Try.prog 106 #[.int .i64 x] w fun e w' => e = .returned (.bool false) ∧ w = w' := by
  go_enter Try.func106, Try.ntmps106
  go_wp2_with fail
  go_ret
  exact ⟨rfl, rfl⟩

set_option maxHeartbeats 800000 in
theorem cmpInt_any (x y : Int) (w : World) : Calls Try.prog 99 #[.int .i64 x, .int .i64 y] w fun e w' => e = .returned (.int .i64 (sgn (x - y))) ∧ w = w' := by
  have HS : Hid ((x < y ∧ sgn (x - y) = -1) ∨ (x = y ∧ sgn (x - y) = 0) ∨ (y < x ∧ sgn (x - y) = 1)) := by
    rcases sgn_cases (x - y) with h | h | h
    · exact Or.inl ⟨by omega, h.2⟩
    · exact Or.inr (Or.inl ⟨by omega, h.2⟩)
    · exact Or.inr (Or.inr ⟨by omega, h.2⟩)
  go_enter Try.func99, Try.ntmps99
  go_wp2_with fail
  refine (isNaN_any x _).mono ?_
  rintro e w1 ⟨rfl, rfl⟩
  go_wp2_with fail
  refine (isNaN_any y _).mono ?_
  rintro e w1 ⟨rfl, rfl⟩
  rcases HS.out with ⟨h, e⟩ | ⟨h, e⟩ | ⟨h, e⟩
  · have HE : Hid (sgn (x - y) = -1) := e
    clear HS e
    go_wp2_with fail
    go_ret
    exact ⟨by rw [HE.out]; rfl, rfl⟩
  · have HE : Hid (sgn (x - y) = 0) := e
    clear HS e
    have h1 : x ≤ y := by omega
    have h2 : y ≤ x := by omega
    clear h
    go_wp2_with fail
    go_ret
    exact ⟨by rw [HE.out]; rfl, rfl⟩
  · have HE : Hid (sgn (x - y) = 1) := e
    clear HS e
    go_wp2_with fail
    go_ret
    exact ⟨by rw [HE.out]; rfl, rfl⟩

def orI (s t : Int) : Int := if s = 0 then t else s

set_option maxHeartbeats 800000 in
theorem or2 (s t : Int) (g : Nat) (V : World) (c0 : V.cell? ⟨g, 0, none⟩ = some (.int .i64 s)) (c1 : V.cell? ⟨g, 1, none⟩ = some (.int .i64 t)) :
    Calls Try.prog 98 #[.slice (some ⟨g, 0, none⟩) 2 2] V fun e w' => e = .returned (.int .i64 (orI s t)) ∧ V = w' := by
  have HS : Hid ((s = 0 → orI s t = t) ∧ (s ≠ 0 → orI s t = s)) := ⟨fun h => by rw [orI, if_pos h], fun h => by rw [orI, if_neg h]⟩
  go_enter Try.func98, Try.ntmps98
  go_wp2_with fail
  go_loop [8] (fun i => ∃ k : Nat, i = .int .i64 k ∧ k ≤ 2 ∧ Hid ((1 ≤ k → s = 0) ∧ (2 ≤ k → t = 0)))
    (fun i => 2 - (intOf i).toNat)
  case atStart => exact ⟨0, rfl, Nat.zero_le _, fun h => by omega, fun h => by omega⟩
  case round =>
    obtain ⟨k, rfl, hle, H⟩ := hrel
    rcases (show k = 0 ∨ k = 1 ∨ k = 2 by omega) with rfl | rfl | rfl
    · by_cases hs : s = 0
      · have HS0 : Hid (s = 0) := hs
        go_wp2_with fail
        go_round
        case rel => exact ⟨1, rfl, by omega, fun _ => HS0.out, fun h => by omega⟩
        case measure => simp [intOf]
      · have HE : Hid (orI s t = s) := HS.out.2 hs
        go_wp2_with fail
        go_ret
        exact ⟨by rw [HE.out]; rfl, rfl⟩
    · by_cases hs : t = 0
      · have HS0 : Hid (t = 0) := hs
        go_wp2_with fail
        go_round
        case rel => exact ⟨2, rfl, by omega, fun _ => H.out.1 (by omega), fun _ => HS0.out⟩
        case measure => simp [intOf]
      · have HE : Hid (orI s t = t) := HS.out.1 (H.out.1 (by omega))
        go_wp2_with fail
        go_ret
        exact ⟨by rw [HE.out]; rfl, rfl⟩
    · have HE : Hid (orI s t = 0) := by rw [Hid, HS.out.1 (H.out.1 (by omega)), H.out.2 (by omega)]
      go_wp2_with fail
      go_ret
      exact ⟨by rw [HE.out]; rfl, rfl⟩

/-- The order of points. -/
def cmpP (a b : Pt) : Int := orI (sgn (a.1 - b.1)) (sgn (a.2 - b.2))
theorem cmpP_eq {a b : Pt} (ha : CdP a) (hb : CdP b) : cmpP a b = sgn (K a - K b) := by
  obtain ⟨⟨p, q⟩, r, t⟩ := ha
  obtain ⟨⟨p', q'⟩, r', t'⟩ := hb
  unfold cmpP orI
  rcases sgn_cases (a.1 - b.1) with ⟨h, e⟩ | ⟨h, e⟩ | ⟨h, e⟩
  · rw [e, if_neg (by omega)]
    rcases sgn_cases (K a - K b) with ⟨h', e'⟩ | ⟨h', e'⟩ | ⟨h', e'⟩ <;> unfold K at h' <;> omega
  · rw [e, if_pos rfl]
    congr 1
    unfold K
    omega
  · rw [e, if_neg (by omega)]
    rcases sgn_cases (K a - K b) with ⟨h', e'⟩ | ⟨h', e'⟩ | ⟨h', e'⟩ <;> unfold K at h' <;> omega

set_option maxHeartbeats 800000 in
theorem compare_any (ax ay bx by' : Int) (w : World) :
    Calls Try.prog 85 #[.agg #[.int .i64 ax, .int .i64 ay], .agg #[.int .i64 bx, .int .i64 by']] w fun e w' => e = .returned (.int .i64 (cmpP (ax, ay) (bx, by'))) ∧ Hid (New w w') := by
  go_enter Try.func85, Try.ntmps85
  go_wp2_with fail
  obtain ⟨W, hW⟩ : ∃ W, W = (w.alloc (.cells #[.int .i64 ax, .int .i64 ay] 23)).alloc (.cells #[.int .i64 bx, .int .i64 by'] 23) := ⟨_, rfl⟩
  have HW : Hid (New w W ∧ W.heap.size = w.heap.size + 2) := by rw [hW]; exact ⟨(New.alloc _ _).alloc' _, by simp⟩
  have a0 : W.cell? ⟨w.heap.size, 0, none⟩ = some (.int .i64 ax) := by rw [hW]; go_simp
  have a1 : W.cell? ⟨w.heap.size, 1, none⟩ = some (.int .i64 ay) := by rw [hW]; go_simp
  have b0 : W.cell? ⟨w.heap.size + 1, 0, none⟩ = some (.int .i64 bx) := by rw [hW]; go_simp
  have b1 : W.cell? ⟨w.heap.size + 1, 1, none⟩ = some (.int .i64 by') := by rw [hW]; go_simp
  rw [← hW]
  clear hW
  have F1 : Hid (0 ≤ 0) := Nat.le_refl _
  go_region_held3 (fun w' => w'.cell? ⟨w.heap.size, 0, none⟩ = some (.int .i64 ax) ∧ w'.cell? ⟨w.heap.size, 1, none⟩ = some (.int .i64 ay) ∧ w'.cell? ⟨w.heap.size + 1, 0, none⟩ = some (.int .i64 bx) ∧ w'.cell? ⟨w.heap.size + 1, 1, none⟩ = some (.int .i64 by'))
    (first
      | go_keep)
    (first
      | (go_at_call 99; clear F1; refine (cmpInt_any ax bx _).mono ?_; rintro e w1 ⟨rfl, rfl⟩)
      | (go_at_call 99; refine (cmpInt_any ay by' _).mono ?_; rintro e w1 ⟨rfl, rfl⟩)
      | (go_at_call 98; refine (or2 (sgn (ax - bx)) (sgn (ay - by')) W.heap.size _ (by go_simp) (by go_simp)).mono ?_; rintro e w1 ⟨rfl, rfl⟩))
  go_wp2_with fail
  go_ret
  exact ⟨rfl, (HW.out.1.alloc' _).drewN 1⟩

end Go.Proofs.Ytgeoffpcmkofkaa
/- The walk of 'Sorted' of package order. -/
namespace Go.Proofs.Ytgeoffpcmkofkaa
open Go.RowKit Fl
set_option maxRecDepth 100000
attribute [local go_sem ↓] Go.wp_at_zero Go.wp_at_succ

theorem set_other {W : World} {b k i o : Nat} {x : Value} (h : k ≠ b) : (W.setCell ⟨b, i, none⟩ x).cell? ⟨k, o, none⟩ = W.cell? ⟨k, o, none⟩ :=
  World.cell?_of_block (a := ⟨k, o, none⟩) (heap_setCell_other W ⟨b, i, none⟩ k x h)
theorem New.set {w w1 : World} (h : New w w1) {b o : Nat} (hb : w.heap.size ≤ b) (x : Value) : New w (w1.setCell ⟨b, o, none⟩ x) :=
  Below.new' ((New.below' h).setCell (p := ⟨b, o, none⟩) hb x)
theorem drew_cell {W : World} {a : Addr} : W.drew.cell? a = W.cell? a := rfl

set_option maxHeartbeats 800000 in
theorem sorted_yes (ax ay bx by' : Int) (w : World) (h : 0 < cmpP (ax, ay) (bx, by')) :
    Calls Try.prog 84 #[.agg #[.int .i64 ax, .int .i64 ay], .agg #[.int .i64 bx, .int .i64 by']] w fun e w' => e = .returned (.tuple #[.agg #[.int .i64 bx, .int .i64 by'], .agg #[.int .i64 ax, .int .i64 ay]]) ∧ Hid (New w w') := by
  go_enter Try.func84, Try.ntmps84
  go_wp2_with fail
  refine (compare_any ax ay bx by' _).mono ?_
  rintro e w1 ⟨rfl, H1⟩
  have HW : Hid (New w w1) := ((((New.alloc _ _).alloc' _).alloc' _).alloc' _).trans' H1.out
  have a0 : w1.cell? ⟨w.heap.size, 0, none⟩ = some (.int .i64 ax) := by rw [H1.out.rule _ _ (by simp; omega)]; go_simp
  have a1 : w1.cell? ⟨w.heap.size, 1, none⟩ = some (.int .i64 ay) := by rw [H1.out.rule _ _ (by simp; omega)]; go_simp
  have b0 : w1.cell? ⟨w.heap.size + 1, 0, none⟩ = some (.int .i64 bx) := by rw [H1.out.rule _ _ (by simp)]; go_simp
  have b1 : w1.cell? ⟨w.heap.size + 1, 1, none⟩ = some (.int .i64 by') := by rw [H1.out.rule _ _ (by simp)]; go_simp
  have u0 : w1.cell? ⟨w.heap.size + 1 + 1, 0, none⟩ = some (.int .i64 0) := by rw [H1.out.rule _ _ (by simp)]; go_simp
  have u1 : w1.cell? ⟨w.heap.size + 1 + 1, 1, none⟩ = some (.int .i64 0) := by rw [H1.out.rule _ _ (by simp)]; go_simp
  have v0 : w1.cell? ⟨w.heap.size + 1 + 1 + 1, 0, none⟩ = some (.int .i64 0) := by rw [H1.out.rule _ _ (by simp)]; go_simp
  have v1 : w1.cell? ⟨w.heap.size + 1 + 1 + 1, 1, none⟩ = some (.int .i64 0) := by rw [H1.out.rule _ _ (by simp)]; go_simp
  have fu : ∀ o, w1.frozen? ⟨w.heap.size + 1 + 1, o, none⟩ = false := fun o => by rw [H1.out.frule' _ _ (by simp)]; go_simp
  have fv : ∀ o, w1.frozen? ⟨w.heap.size + 1 + 1 + 1, o, none⟩ = false := fun o => by rw [H1.out.frule' _ _ (by simp)]; go_simp
  clear H1
  have n1 : w.heap.size ≠ w.heap.size + 1 + 1 := by omega
  have n2 : w.heap.size ≠ w.heap.size + 1 + 1 + 1 := by omega
  have n3 : w.heap.size + 1 ≠ w.heap.size + 1 + 1 := by omega
  have n4 : w.heap.size + 1 ≠ w.heap.size + 1 + 1 + 1 := by omega
  have n5 : w.heap.size + 1 + 1 ≠ w.heap.size + 1 + 1 + 1 := by omega
  have HB : Hid (w.heap.size ≤ w.heap.size + 1 + 1 ∧ w.heap.size ≤ w.heap.size + 1 + 1 + 1) := ⟨by omega, by omega⟩
  go_wp2_with fail
  generalize w.heap.size + 1 + 1 + 1 = B3 at *
  generalize w.heap.size + 1 + 1 = B2 at *
  go_region_held3 (fun w' => w'.cell? ⟨w.heap.size, 0, none⟩ = some (.int .i64 ax) ∧ w'.cell? ⟨w.heap.size, 1, none⟩ = some (.int .i64 ay) ∧ w'.cell? ⟨w.heap.size + 1, 0, none⟩ = some (.int .i64 bx) ∧ w'.cell? ⟨w.heap.size + 1, 1, none⟩ = some (.int .i64 by'))
    (first
      | (simp only [drew_cell, set_other n1, set_other n2, set_other n3, set_other n4]; exact ⟨a0, a1, b0, b1⟩)
      | go_keep)
    (first
      | fail)
  go_wp2_with fail
  refine bodyPost_ret (v := .tuple #[.agg #[.int .i64 bx, .int .i64 by'], .agg #[.int .i64 ax, .int .i64 ay]]) (by simp [results, Try.results84, go_sem, u0, u1, v0, v1]) rfl ?_
  exact ⟨rfl, ((((HW.out.set HB.out.1 _).set HB.out.1 _).set HB.out.2 _).set HB.out.2 _).drewN 1⟩

set_option maxHeartbeats 800000 in
theorem sorted_no (ax ay bx by' : Int) (w : World) (h : cmpP (ax, ay) (bx, by') ≤ 0) :
    Calls Try.prog 84 #[.agg #[.int .i64 ax, .int .i64 ay], .agg #[.int .i64 bx, .int .i64 by']] w fun e w' => e = .returned (.tuple #[.agg #[.int .i64 ax, .int .i64 ay], .agg #[.int .i64 bx, .int .i64 by']]) ∧ Hid (New w w') := by
  go_enter Try.func84, Try.ntmps84
  go_wp2_with fail
  refine (compare_any ax ay bx by' _).mono ?_
  rintro e w1 ⟨rfl, H1⟩
  have HW : Hid (New w w1) := ((((New.alloc _ _).alloc' _).alloc' _).alloc' _).trans' H1.out
  have a0 : w1.cell? ⟨w.heap.size, 0, none⟩ = some (.int .i64 ax) := by rw [H1.out.rule _ _ (by simp; omega)]; go_simp
  have a1 : w1.cell? ⟨w.heap.size, 1, none⟩ = some (.int .i64 ay) := by rw [H1.out.rule _ _ (by simp; omega)]; go_simp
  have b0 : w1.cell? ⟨w.heap.size + 1, 0, none⟩ = some (.int .i64 bx) := by rw [H1.out.rule _ _ (by simp)]; go_simp
  have b1 : w1.cell? ⟨w.heap.size + 1, 1, none⟩ = some (.int .i64 by') := by rw [H1.out.rule _ _ (by simp)]; go_simp
  have u0 : w1.cell? ⟨w.heap.size + 1 + 1, 0, none⟩ = some (.int .i64 0) := by rw [H1.out.rule _ _ (by simp)]; go_simp
  have u1 : w1.cell? ⟨w.heap.size + 1 + 1, 1, none⟩ = some (.int .i64 0) := by rw [H1.out.rule _ _ (by simp)]; go_simp
  have v0 : w1.cell? ⟨w.heap.size + 1 + 1 + 1, 0, none⟩ = some (.int .i64 0) := by rw [H1.out.rule _ _ (by simp)]; go_simp
  have v1 : w1.cell? ⟨w.heap.size + 1 + 1 + 1, 1, none⟩ = some (.int .i64 0) := by rw [H1.out.rule _ _ (by simp)]; go_simp
  have fu : ∀ o, w1.frozen? ⟨w.heap.size + 1 + 1, o, none⟩ = false := fun o => by rw [H1.out.frule' _ _ (by simp)]; go_simp
  have fv : ∀ o, w1.frozen? ⟨w.heap.size + 1 + 1 + 1, o, none⟩ = false := fun o => by rw [H1.out.frule' _ _ (by simp)]; go_simp
  clear H1
  have n1 : w.heap.size ≠ w.heap.size + 1 + 1 := by omega
  have n2 : w.heap.size ≠ w.heap.size + 1 + 1 + 1 := by omega
  have n3 : w.heap.size + 1 ≠ w.heap.size + 1 + 1 := by omega
  have n4 : w.heap.size + 1 ≠ w.heap.size + 1 + 1 + 1 := by omega
  have n5 : w.heap.size + 1 + 1 ≠ w.heap.size + 1 + 1 + 1 := by omega
  have HB : Hid (w.heap.size ≤ w.heap.size + 1 + 1 ∧ w.heap.size ≤ w.heap.size + 1 + 1 + 1) := ⟨by omega, by omega⟩
  go_wp2_with fail
  generalize w.heap.size + 1 + 1 + 1 = B3 at *
  generalize w.heap.size + 1 + 1 = B2 at *
  go_region_held3 (fun w' => w'.cell? ⟨w.heap.size, 0, none⟩ = some (.int .i64 ax) ∧ w'.cell? ⟨w.heap.size, 1, none⟩ = some (.int .i64 ay) ∧ w'.cell? ⟨w.heap.size + 1, 0, none⟩ = some (.int .i64 bx) ∧ w'.cell? ⟨w.heap.size + 1, 1, none⟩ = some (.int .i64 by'))
    (first
      | (simp only [drew_cell, set_other n1, set_other n2, set_other n3, set_other n4]; exact ⟨a0, a1, b0, b1⟩)
      | go_keep)
    (first
      | fail)
  go_wp2_with fail
  refine bodyPost_ret (v := .tuple #[.agg #[.int .i64 ax, .int .i64 ay], .agg #[.int .i64 bx, .int .i64 by']]) (by simp [results, Try.results84, go_sem, u0, u1, v0, v1]) rfl ?_
  exact ⟨rfl, ((((HW.out.set HB.out.1 _).set HB.out.1 _).set HB.out.2 _).set HB.out.2 _).drewN 1⟩

/-- Two points, the one that comes first ahead. -/
theorem sorted_any (ax ay bx by' : Int) (w : World) (ha : CdP (ax, ay)) (hb : CdP (bx, by')) :
    Calls Try.prog 84 #[.agg #[.int .i64 ax, .int .i64 ay], .agg #[.int .i64 bx, .int .i64 by']] w fun e w' => ∃ fx fy lx ly : Int, e = .returned (.tuple #[.agg #[.int .i64 fx, .int .i64 fy], .agg #[.int .i64 lx, .int .i64 ly]]) ∧
      Hid (K (fx, fy) = min (K (ax, ay)) (K (bx, by')) ∧ K (lx, ly) = max (K (ax, ay)) (K (bx, by')) ∧ (((fx, fy) = (ax, ay) ∧ (lx, ly) = (bx, by')) ∨ ((fx, fy) = (bx, by') ∧ (lx, ly) = (ax, ay)))) ∧ Hid (New w w') := by
  have hc := cmpP_eq ha hb
  by_cases h : 0 < cmpP (ax, ay) (bx, by')
  · refine (sorted_yes ax ay bx by' w h).mono ?_
    rintro e w1 ⟨rfl, H1⟩
    rw [hc, sgn_pos] at h
    exact ⟨_, _, _, _, rfl, ⟨by omega, by omega, Or.inr ⟨rfl, rfl⟩⟩, H1⟩
  · refine (sorted_no ax ay bx by' w (by omega)).mono ?_
    rintro e w1 ⟨rfl, H1⟩
    rw [hc, sgn_pos] at h
    exact ⟨_, _, _, _, rfl, ⟨by omega, by omega, Or.inl ⟨rfl, rfl⟩⟩, H1⟩

end Go.Proofs.Ytgeoffpcmkofkaa
/- The walks of package segment. -/
namespace Go.Proofs.Ytgeoffpcmkofkaa
open Go.RowKit Fl
set_option maxRecDepth 100000
attribute [local go_sem ↓] Go.wp_at_zero Go.wp_at_succ

/-- What 'Sorted' answers. -/
def Srt (a b f l : Pt) : Prop := K f = min (K a) (K b) ∧ K l = max (K a) (K b) ∧ ((f = a ∧ l = b) ∨ (f = b ∧ l = a))

theorem Srt.cd {a b f l : Pt} (h : Srt a b f l) (ha : CdP a) (hb : CdP b) : CdP f ∧ CdP l := by
  rcases h.2.2 with ⟨rfl, rfl⟩ | ⟨rfl, rfl⟩
  · exact ⟨ha, hb⟩
  · exact ⟨hb, ha⟩

theorem holds_val {a b f l p : Pt} (h : Srt a b f l) (ha : CdP a) (hb : CdP b) (hp : CdP p) : onP a b p ↔ cmpP f p ≤ 0 ∧ cmpP p l ≤ 0 ∧ sgn (D f l p) = 0 := by
  have hc := h.cd ha hb
  rw [holds_iff ha hb hp, cmpP_eq hc.1 hp, cmpP_eq hp hc.2, sgn_zero]
  have e1 : sgn (K f - K p) ≤ 0 ↔ K f ≤ K p := by rcases sgn_cases (K f - K p) with h | h | h <;> omega
  have e2 : sgn (K p - K l) ≤ 0 ↔ K p ≤ K l := by rcases sgn_cases (K p - K l) with h | h | h <;> omega
  have e3 : D f l p = 0 ↔ D a b p = 0 := by
    rcases h.2.2 with ⟨rfl, rfl⟩ | ⟨rfl, rfl⟩
    · exact Iff.rfl
    · rw [D_swap]; omega
  rw [e1, e2, e3]
  obtain ⟨h1, h2, h3⟩ := h
  omega

set_option maxHeartbeats 800000 in
theorem holds_any (ax ay bx by' px py : Int) (w : World) (ha : CdP (ax, ay)) (hb : CdP (bx, by')) (hp : CdP (px, py)) :
    Calls Try.prog 66 #[.agg #[.int .i64 ax, .int .i64 ay, .int .i64 bx, .int .i64 by'], .agg #[.int .i64 px, .int .i64 py]] w fun e w' => e = .returned (.bool (onB (ax, ay) (bx, by') (px, py))) ∧ Hid (New w w') := by
  go_enter Try.func66, Try.ntmps66
  go_wp2_with fail
  refine (sorted_any ax ay bx by' _ ha hb).mono ?_
  rintro e w1 ⟨fx, fy, lx, ly, rfl, HK, H1⟩
  have HW : Hid (New w w1) := ((New.alloc _ _).alloc' _).trans' H1.out
  have p0 : w1.cell? ⟨w.heap.size + 1, 0, none⟩ = some (.int .i64 px) := by rw [H1.out.rule _ _ (by simp)]; go_simp
  have p1 : w1.cell? ⟨w.heap.size + 1, 1, none⟩ = some (.int .i64 py) := by rw [H1.out.rule _ _ (by simp)]; go_simp
  have HL : Hid (w.heap.size + 1 < w1.heap.size) := by have := H1.out.size; simp at this; unfold Hid; omega
  have p0' : ∀ o1 o2, ((w1.alloc o1).alloc o2).cell? ⟨w.heap.size + 1, 0, none⟩ = some (.int .i64 px) := fun o1 o2 => (((New.alloc w1 o1).alloc' o2).rule _ _ HL.out).trans p0
  have p1' : ∀ o1 o2, ((w1.alloc o1).alloc o2).cell? ⟨w.heap.size + 1, 1, none⟩ = some (.int .i64 py) := fun o1 o2 => (((New.alloc w1 o1).alloc' o2).rule _ _ HL.out).trans p1
  clear H1
  go_wp2_with fail
  refine (compare_any fx fy px py _).mono ?_
  rintro e w2 ⟨rfl, H2⟩
  have HV : Hid (onP (ax, ay) (bx, by') (px, py) ↔ cmpP (fx, fy) (px, py) ≤ 0 ∧ cmpP (px, py) (lx, ly) ≤ 0 ∧ sgn (D (fx, fy) (lx, ly) (px, py)) = 0) := holds_val HK.out ha hb hp
  have HC : Hid (CdP (fx, fy) ∧ CdP (lx, ly) ∧ CdP (px, py)) := ⟨(Srt.cd HK.out ha hb).1, (Srt.cd HK.out ha hb).2, hp⟩
  have HN : Hid (New w w2) := ((HW.out.alloc' _).alloc' _).trans' H2.out
  have r2 := H2.out.rule
  have f0 : w2.cell? ⟨w1.heap.size, 0, none⟩ = some (.int .i64 fx) := by rw [r2 _ _ (by simp; omega)]; go_simp
  have f1 : w2.cell? ⟨w1.heap.size, 1, none⟩ = some (.int .i64 fy) := by rw [r2 _ _ (by simp; omega)]; go_simp
  have l0 : w2.cell? ⟨w1.heap.size + 1, 0, none⟩ = some (.int .i64 lx) := by rw [r2 _ _ (by simp)]; go_simp
  have l1 : w2.cell? ⟨w1.heap.size + 1, 1, none⟩ = some (.int .i64 ly) := by rw [r2 _ _ (by simp)]; go_simp
  have q0 : w2.cell? ⟨w.heap.size + 1, 0, none⟩ = some (.int .i64 px) := by rw [r2 _ _ (by have := HL.out; simp; omega)]; exact p0' _ _
  have q1 : w2.cell? ⟨w.heap.size + 1, 1, none⟩ = some (.int .i64 py) := by rw [r2 _ _ (by have := HL.out; simp; omega)]; exact p1' _ _
  have HS : Hid (w.heap.size + 1 < w2.heap.size ∧ w1.heap.size + 1 < w2.heap.size) := by have h := H2.out.size; have := HL.out; simp at h; exact ⟨by omega, by omega⟩
  clear r2 H2 p0 p1 p0' p1' HL HK ha hb hp
  by_cases h1 : cmpP (fx, fy) (px, py) ≤ 0
  · have HF1 : Hid (cmpP (fx, fy) (px, py) ≤ 0) := h1
    go_wp2_with fail
    refine (compare_any px py lx ly _).mono ?_
    rintro e w3 ⟨rfl, H3⟩
    have HN3 : Hid (New w w3) := HN.out.trans' H3.out
    have f0' : w3.cell? ⟨w1.heap.size, 0, none⟩ = some (.int .i64 fx) := (H3.out.rule _ _ (by have := HS.out; omega)).trans f0
    have f1' : w3.cell? ⟨w1.heap.size, 1, none⟩ = some (.int .i64 fy) := (H3.out.rule _ _ (by have := HS.out; omega)).trans f1
    have l0' : w3.cell? ⟨w1.heap.size + 1, 0, none⟩ = some (.int .i64 lx) := (H3.out.rule _ _ (by have := HS.out; omega)).trans l0
    have l1' : w3.cell? ⟨w1.heap.size + 1, 1, none⟩ = some (.int .i64 ly) := (H3.out.rule _ _ (by have := HS.out; omega)).trans l1
    have q0' : w3.cell? ⟨w.heap.size + 1, 0, none⟩ = some (.int .i64 px) := (H3.out.rule _ _ (by have := HS.out; omega)).trans q0
    have q1' : w3.cell? ⟨w.heap.size + 1, 1, none⟩ = some (.int .i64 py) := (H3.out.rule _ _ (by have := HS.out; omega)).trans q1
    clear H3 f0 f1 l0 l1 q0 q1 HN
    by_cases h2 : cmpP (px, py) (lx, ly) ≤ 0
    · have HF2 : Hid (cmpP (px, py) (lx, ly) ≤ 0) := h2
      go_wp2_with fail
      refine (of_any fx fy lx ly px py _ HC.out.1.1 HC.out.1.2 HC.out.2.1.1 HC.out.2.1.2 HC.out.2.2.1 HC.out.2.2.2).mono ?_
      rintro e w4 ⟨rfl, H4⟩
      by_cases h3 : sgn (det fx fy lx ly px py) = 0
      · have HF : Hid (onB (ax, ay) (bx, by') (px, py) = true) := decide_eq_true (HV.out.2 ⟨HF1.out, HF2.out, h3⟩)
        go_wp2_with fail
        go_ret
        exact ⟨by rw [HF.out]; rfl, HN3.out.trans' H4.out⟩
      · have HF : Hid (onB (ax, ay) (bx, by') (px, py) = false) := decide_eq_false (fun h => h3 (HV.out.1 h).2.2)
        go_wp2_with fail
        go_ret
        exact ⟨by rw [HF.out]; simp [h3], HN3.out.trans' H4.out⟩
    · have HF : Hid (onB (ax, ay) (bx, by') (px, py) = false) := decide_eq_false (fun h => h2 (HV.out.1 h).2.1)
      have h2' : ¬ (cmpP (px, py) (lx, ly) ≤ 0) := h2
      go_wp2_with fail
      go_ret
      exact ⟨by rw [HF.out]; rfl, HN3⟩
  · have HF : Hid (onB (ax, ay) (bx, by') (px, py) = false) := decide_eq_false (fun h => h1 (HV.out.1 h).1)
    go_wp2_with fail
    go_ret
    exact ⟨by rw [HF.out]; rfl, HN⟩

end Go.Proofs.Ytgeoffpcmkofkaa
/- The walks of 'meetInLine' and 'Meet' of package segment. -/
namespace Go.Proofs.Ytgeoffpcmkofkaa
open Go.RowKit Fl
set_option maxRecDepth 100000
attribute [local go_sem ↓] Go.wp_at_zero Go.wp_at_succ

theorem New.kept {w1 w2 : World} (h : New w1 w2) {b o : Nat} {v : Value} (hc : w1.cell? ⟨b, o, none⟩ = some v) : w2.cell? ⟨b, o, none⟩ = some v :=
  (h.rule b o (World.block_lt_of_cell? w1 _ hc)).trans hc
theorem behind2 {w1 : World} {b o : Nat} {v : Value} (hc : w1.cell? ⟨b, o, none⟩ = some v) : ∀ o1 o2, ((w1.alloc o1).alloc o2).cell? ⟨b, o, none⟩ = some v := fun o1 o2 => ((New.alloc w1 o1).alloc' o2).kept hc

set_option maxHeartbeats 1600000 in
theorem line_any (ax ay bx by' cx cy dx dy : Int) (w : World) (ha : CdP (ax, ay)) (hb : CdP (bx, by')) (hc : CdP (cx, cy)) (hd : CdP (dx, dy)) :
    Calls Try.prog 64 #[.agg #[.int .i64 ax, .int .i64 ay, .int .i64 bx, .int .i64 by'], .agg #[.int .i64 cx, .int .i64 cy, .int .i64 dx, .int .i64 dy]] w fun e w' => e = .returned (.int .i64 (lineN (ax, ay) (bx, by') (cx, cy) (dx, dy))) ∧ Hid (New w w') := by
  go_enter Try.func64, Try.ntmps64
  go_wp2_with fail
  refine (sorted_any ax ay bx by' _ ha hb).mono ?_
  rintro e w1 ⟨fx, fy, lx, ly, rfl, HK1, H1⟩
  have HW1 : Hid (New w w1) := ((New.alloc _ _).alloc' _).trans' H1.out
  have t0 := behind2 (show w1.cell? ⟨w.heap.size + 1, 0, none⟩ = some (.int .i64 cx) by rw [H1.out.rule _ _ (by simp)]; go_simp)
  have t1 := behind2 (show w1.cell? ⟨w.heap.size + 1, 1, none⟩ = some (.int .i64 cy) by rw [H1.out.rule _ _ (by simp)]; go_simp)
  have t2 := behind2 (show w1.cell? ⟨w.heap.size + 1, 2, none⟩ = some (.int .i64 dx) by rw [H1.out.rule _ _ (by simp)]; go_simp)
  have t3 := behind2 (show w1.cell? ⟨w.heap.size + 1, 3, none⟩ = some (.int .i64 dy) by rw [H1.out.rule _ _ (by simp)]; go_simp)
  clear H1
  go_wp2_with fail
  refine (sorted_any cx cy dx dy _ hc hd).mono ?_
  rintro e w2 ⟨gx, gy, mx, my, rfl, HK2, H2⟩
  have HW2 : Hid (New w w2) := ((HW1.out.alloc' _).alloc' _).trans' H2.out
  have HC : Hid ((CdP (fx, fy) ∧ CdP (lx, ly)) ∧ (CdP (gx, gy) ∧ CdP (mx, my))) := ⟨Srt.cd HK1.out ha hb, Srt.cd HK2.out hc hd⟩
  have f0 := behind2 (show w2.cell? ⟨w1.heap.size, 0, none⟩ = some (.int .i64 fx) by rw [H2.out.rule _ _ (by simp; omega)]; go_simp)
  have f1 := behind2 (show w2.cell? ⟨w1.heap.size, 1, none⟩ = some (.int .i64 fy) by rw [H2.out.rule _ _ (by simp; omega)]; go_simp)
  have l0 : w2.cell? ⟨w1.heap.size + 1, 0, none⟩ = some (.int .i64 lx) := by rw [H2.out.rule _ _ (by simp)]; go_simp
  have l1 : w2.cell? ⟨w1.heap.size + 1, 1, none⟩ = some (.int .i64 ly) := by rw [H2.out.rule _ _ (by simp)]; go_simp
  clear t0 t1 t2 t3 H2
  go_wp2_with fail
  refine (sorted_any fx fy gx gy _ HC.out.1.1 HC.out.2.1).mono ?_
  rintro e w3 ⟨hx, hy, nx, ny, rfl, HK3, H3⟩
  have HW3 : Hid (New w w3) := ((HW2.out.alloc' _).alloc' _).trans' H3.out
  have HC3 : Hid (CdP (hx, hy) ∧ CdP (nx, ny)) := Srt.cd HK3.out HC.out.1.1 HC.out.2.1
  have l0' : w3.cell? ⟨w1.heap.size + 1, 0, none⟩ = some (.int .i64 lx) := H3.out.kept (behind2 l0 _ _)
  have l1' : w3.cell? ⟨w1.heap.size + 1, 1, none⟩ = some (.int .i64 ly) := H3.out.kept (behind2 l1 _ _)
  have m0 : w3.cell? ⟨w2.heap.size + 1, 0, none⟩ = some (.int .i64 mx) := by rw [H3.out.rule _ _ (by simp)]; go_simp
  have m1 : w3.cell? ⟨w2.heap.size + 1, 1, none⟩ = some (.int .i64 my) := by rw [H3.out.rule _ _ (by simp)]; go_simp
  have l0a := behind2 l0'
  have l1a := behind2 l1'
  have m0a := behind2 m0
  have m1a := behind2 m1
  clear H3 f0 f1 l0 l1
  go_wp2_with fail
  refine (sorted_any lx ly mx my _ HC.out.1.2 HC.out.2.2).mono ?_
  rintro e w4 ⟨ix, iy, ox, oy, rfl, HK4, H4⟩
  have HW4 : Hid (New w w4) := ((HW3.out.alloc' _).alloc' _).trans' H4.out
  have HC4 : Hid (CdP (ix, iy) ∧ CdP (ox, oy)) := Srt.cd HK4.out HC.out.1.2 HC.out.2.2
  have n0 : w4.cell? ⟨w3.heap.size + 1, 0, none⟩ = some (.int .i64 nx) := by rw [H4.out.rule _ _ (by simp)]; go_simp
  have n1 : w4.cell? ⟨w3.heap.size + 1, 1, none⟩ = some (.int .i64 ny) := by rw [H4.out.rule _ _ (by simp)]; go_simp
  have n0a := behind2 n0
  have n1a := behind2 n1
  clear H4 l0' l1' m0 m1 l0a l1a m0a m1a
  have HE : Hid (cmpP (ix, iy) (nx, ny) = sgn (K (ix, iy) - K (nx, ny))) := cmpP_eq HC4.out.1 HC3.out.2
  have HV : Hid ((0 < cmpP (ix, iy) (nx, ny) → lineN (ax, ay) (bx, by') (cx, cy) (dx, dy) = 3) ∧ (cmpP (ix, iy) (nx, ny) = 0 → lineN (ax, ay) (bx, by') (cx, cy) (dx, dy) = 2) ∧ (cmpP (ix, iy) (nx, ny) < 0 → lineN (ax, ay) (bx, by') (cx, cy) (dx, dy) = 0)) := by
    have k1 := HK1.out
    have k2 := HK2.out
    have k3 := HK3.out.2.1
    have k4 := HK4.out.1
    rw [k1.1, k2.1] at k3
    rw [k1.2.1, k2.2.1] at k4
    rw [Hid, HE.out, sgn_pos, sgn_zero, sgn_neg']
    unfold lineN
    rw [← k3, ← k4]
    refine ⟨fun h => by rw [if_pos (by omega)], fun h => by rw [if_neg (by omega), if_pos (by omega)], fun h => by rw [if_neg (by omega), if_neg (by omega)]⟩
  clear HK1 HK2 HK3 HK4 HC HC3 HC4 HE
  go_wp2_with fail
  refine (compare_any ix iy nx ny _).mono ?_
  rintro e w5 ⟨rfl, H5⟩
  have HW5 : Hid (New w w5) := ((HW4.out.alloc' _).alloc' _).trans' H5.out
  clear H5
  rcases Int.lt_trichotomy (cmpP (ix, iy) (nx, ny)) 0 with h | h | h
  · have HR : Hid (lineN (ax, ay) (bx, by') (cx, cy) (dx, dy) = 0) := HV.out.2.2 h
    go_wp2_with fail
    go_ret
    exact ⟨by rw [HR.out]; rfl, HW5⟩
  · have HR : Hid (lineN (ax, ay) (bx, by') (cx, cy) (dx, dy) = 2) := HV.out.2.1 h
    go_wp2_with fail
    go_ret
    exact ⟨by rw [HR.out]; rfl, HW5⟩
  · have HR : Hid (lineN (ax, ay) (bx, by') (cx, cy) (dx, dy) = 3) := HV.out.1 h
    go_wp2_with fail
    go_ret
    exact ⟨by rw [HR.out]; rfl, HW5⟩

end Go.Proofs.Ytgeoffpcmkofkaa
