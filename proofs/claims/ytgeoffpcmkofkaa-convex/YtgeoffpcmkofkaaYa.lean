/- The walks of package order, with 'Compare' and 'Or' of package cmp. -/
import Derived.Test.YtgeoffpcmkofkaaGeo
import Derived.Test.YtgeoffpcmkofkaaWj
import Derived.Deep.RegionHeld3
import Derived.Deep.DrawnRows
namespace Go.Proofs.Ytgeoffpcmkofkaa
open Go.RowKit Fl
set_option maxRecDepth 100000
attribute [local go_sem ↓] Go.wp_at_zero Go.wp_at_succ

set_option maxHeartbeats 400000 in
theorem isNaN_any (x : Int) (w : World) : Calls Try.prog 106 #[.int .i64 x] w fun e w' => e = .returned (.bool false) ∧ w = w' := by
  go_enter Try.func106, Try.ntmps106
  go_wp2_with fail
  go_ret
  exact ⟨rfl, rfl⟩

set_option maxHeartbeats 800000 in
theorem cmpInt_any (x y : Int) (w : World) : Calls Try.prog 99 #[.int .i64 x, .int .i64 y] w fun e w' => e = .returned (.int .i64 (sgn (x - y))) ∧ w = w' := by
  have HS : Hid ((x < y ∧ sgn (x - y) = -1) ∨ (x = y ∧ sgn (x - y) = 0) ∨ (y < x ∧ sgn (x - y) = 1)) := by
    rcases sgn_cases (x - y) with h | h | h
    · exact Or.inl ⟨by omega, h.2⟩
    · exact Or.inr (Or.inl ⟨by omega, h.2⟩)
    · exact Or.inr (Or.inr ⟨by omega, h.2⟩)
  go_enter Try.func99, Try.ntmps99
  go_wp2_with fail
  refine (isNaN_any x _).mono ?_
  rintro e w1 ⟨rfl, rfl⟩
  go_wp2_with fail
  refine (isNaN_any y _).mono ?_
  rintro e w1 ⟨rfl, rfl⟩
  rcases HS.out with ⟨h, e⟩ | ⟨h, e⟩ | ⟨h, e⟩
  · have HE : Hid (sgn (x - y) = -1) := e
    clear HS e
    go_wp2_with fail
    go_ret
    exact ⟨by rw [HE.out]; rfl, rfl⟩
  · have HE : Hid (sgn (x - y) = 0) := e
    clear HS e
    have h1 : x ≤ y := by omega
    have h2 : y ≤ x := by omega
    clear h
    go_wp2_with fail
    go_ret
    exact ⟨by rw [HE.out]; rfl, rfl⟩
  · have HE : Hid (sgn (x - y) = 1) := e
    clear HS e
    go_wp2_with fail
    go_ret
    exact ⟨by rw [HE.out]; rfl, rfl⟩

def orI (s t : Int) : Int := if s = 0 then t else s

set_option maxHeartbeats 800000 in
theorem or2 (s t : Int) (g : Nat) (V : World) (c0 : V.cell? ⟨g, 0, none⟩ = some (.int .i64 s)) (c1 : V.cell? ⟨g, 1, none⟩ = some (.int .i64 t)) :
    Calls Try.prog 98 #[.slice (some ⟨g, 0, none⟩) 2 2] V fun e w' => e = .returned (.int .i64 (orI s t)) ∧ V = w' := by
  have HS : Hid ((s = 0 → orI s t = t) ∧ (s ≠ 0 → orI s t = s)) := ⟨fun h => by rw [orI, if_pos h], fun h => by rw [orI, if_neg h]⟩
  go_enter Try.func98, Try.ntmps98
  go_wp2_with fail
  go_loop [8] (fun i => ∃ k : Nat, i = .int .i64 k ∧ k ≤ 2 ∧ Hid ((1 ≤ k → s = 0) ∧ (2 ≤ k → t = 0)))
    (fun i => 2 - (intOf i).toNat)
  case atStart => exact ⟨0, rfl, Nat.zero_le _, fun h => by omega, fun h => by omega⟩
  case round =>
    obtain ⟨k, rfl, hle, H⟩ := hrel
    rcases (show k = 0 ∨ k = 1 ∨ k = 2 by omega) with rfl | rfl | rfl
    · by_cases hs : s = 0
      · have HS0 : Hid (s = 0) := hs
        go_wp2_with fail
        go_round
        case rel => exact ⟨1, rfl, by omega, fun _ => HS0.out, fun h => by omega⟩
        case measure => simp [intOf]
      · have HE : Hid (orI s t = s) := HS.out.2 hs
        go_wp2_with fail
        go_ret
        exact ⟨by rw [HE.out]; rfl, rfl⟩
    · by_cases hs : t = 0
      · have HS0 : Hid (t = 0) := hs
        go_wp2_with fail
        go_round
        case rel => exact ⟨2, rfl, by omega, fun _ => H.out.1 (by omega), fun _ => HS0.out⟩
        case measure => simp [intOf]
      · have HE : Hid (orI s t = t) := HS.out.1 (H.out.1 (by omega))
        go_wp2_with fail
        go_ret
        exact ⟨by rw [HE.out]; rfl, rfl⟩
    · have HE : Hid (orI s t = 0) := by rw [Hid, HS.out.1 (H.out.1 (by omega)), H.out.2 (by omega)]
      go_wp2_with fail
      go_ret
      exact ⟨by rw [HE.out]; rfl, rfl⟩

/-- The order of points. -/
def cmpP (a b : Pt) : Int := orI (sgn (a.1 - b.1)) (sgn (a.2 - b.2))
theorem cmpP_eq {a b : Pt} (ha : CdP a) (hb : CdP b) : cmpP a b = sgn (K a - K b) := by
  obtain ⟨⟨p, q⟩, r, t⟩ := ha
  obtain ⟨⟨p', q'⟩, r', t'⟩ := hb
  unfold cmpP orI
  rcases sgn_cases (a.1 - b.1) with ⟨h, e⟩ | ⟨h, e⟩ | ⟨h, e⟩
  · rw [e, if_neg (by omega)]
    rcases sgn_cases (K a - K b) with ⟨h', e'⟩ | ⟨h', e'⟩ | ⟨h', e'⟩ <;> unfold K at h' <;> omega
  · rw [e, if_pos rfl]
    congr 1
    unfold K
    omega
  · rw [e, if_neg (by omega)]
    rcases sgn_cases (K a - K b) with ⟨h', e'⟩ | ⟨h', e'⟩ | ⟨h', e'⟩ <;> unfold K at h' <;> omega

set_option maxHeartbeats 800000 in
theorem compare_any (ax ay bx by' : Int) (w : World) :
    Calls Try.prog 85 #[.agg #[.int .i64 ax, .int .i64 ay], .agg #[.int .i64 bx, .int .i64 by']] w fun e w' => e = .returned (.int .i64 (cmpP (ax, ay) (bx, by'))) ∧ Hid (New w w') := by
  go_enter Try.func85, Try.ntmps85
  go_wp2_with fail
  obtain ⟨W, hW⟩ : ∃ W, W = (w.alloc (.cells #[.int .i64 ax, .int .i64 ay] 23)).alloc (.cells #[.int .i64 bx, .int .i64 by'] 23) := ⟨_, rfl⟩
  have HW : Hid (New w W ∧ W.heap.size = w.heap.size + 2) := by rw [hW]; exact ⟨(New.alloc _ _).alloc' _, by simp⟩
  have a0 : W.cell? ⟨w.heap.size, 0, none⟩ = some (.int .i64 ax) := by rw [hW]; go_simp
  have a1 : W.cell? ⟨w.heap.size, 1, none⟩ = some (.int .i64 ay) := by rw [hW]; go_simp
  have b0 : W.cell? ⟨w.heap.size + 1, 0, none⟩ = some (.int .i64 bx) := by rw [hW]; go_simp
  have b1 : W.cell? ⟨w.heap.size + 1, 1, none⟩ = some (.int .i64 by') := by rw [hW]; go_simp
  rw [← hW]
  clear hW
  have F1 : Hid (0 ≤ 0) := Nat.le_refl _
  go_region_held3 (fun w' => w'.cell? ⟨w.heap.size, 0, none⟩ = some (.int .i64 ax) ∧ w'.cell? ⟨w.heap.size, 1, none⟩ = some (.int .i64 ay) ∧ w'.cell? ⟨w.heap.size + 1, 0, none⟩ = some (.int .i64 bx) ∧ w'.cell? ⟨w.heap.size + 1, 1, none⟩ = some (.int .i64 by'))
    (first
      | go_keep)
    (first
      | (go_at_call 99; clear F1; refine (cmpInt_any ax bx _).mono ?_; rintro e w1 ⟨rfl, rfl⟩)
      | (go_at_call 99; refine (cmpInt_any ay by' _).mono ?_; rintro e w1 ⟨rfl, rfl⟩)
      | (go_at_call 98; refine (or2 (sgn (ax - bx)) (sgn (ay - by')) W.heap.size _ (by go_simp) (by go_simp)).mono ?_; rintro e w1 ⟨rfl, rfl⟩))
  go_wp2_with fail
  go_ret
  exact ⟨rfl, (HW.out.1.alloc' _).drewN 1⟩

end Go.Proofs.Ytgeoffpcmkofkaa
