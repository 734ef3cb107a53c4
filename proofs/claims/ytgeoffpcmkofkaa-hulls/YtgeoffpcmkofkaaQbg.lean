/- Yg: texts laid into one. -/
import Derived.Test.YtgeoffpcmkofkaaQad
import Derived.Test.YtgeoffpcmkofkaaQbf
/- The walks of plumbref's 'between', 'On', 'same'. -/
namespace Go.Proofs.Ytgeoffpcmkofkaa
open Go.RowKit Fl Dg
set_option maxRecDepth 100000

def btwB (a b c : Int) : Bool := decide (btw a b c)

set_option maxHeartbeats 800000 in
theorem between_any (a b c : Int) (w : World) : Calls Try.prog 65 #[.int .i64 a, .int .i64 b, .int .i64 c] w fun e w' => e = .returned (.bool (btwB a b c)) ∧ w = w' := by
  by_cases h1 : a ≤ c
  · by_cases h2 : c ≤ b
    · have HB : Hid (btwB a b c = true) := decide_eq_true (Or.inl ⟨h1, h2⟩)
      go_enter Try.func65, Try.ntmps65
      go_wp2_with fail
      go_ret
      exact ⟨by rw [HB.out]; rfl, rfl⟩
    · by_cases h3 : b ≤ c
      · by_cases h4 : c ≤ a
        · have HB : Hid (btwB a b c = true) := decide_eq_true (Or.inr ⟨h3, h4⟩)
          go_enter Try.func65, Try.ntmps65
          go_wp2_with fail
          go_ret
          exact ⟨by rw [HB.out]; simp, rfl⟩
        · have HB : Hid (btwB a b c = false) := decide_eq_false (by unfold btw; omega)
          go_enter Try.func65, Try.ntmps65
          go_wp2_with fail
          go_ret
          exact ⟨by rw [HB.out]; simp, rfl⟩
      · omega
  · by_cases h3 : b ≤ c
    · by_cases h4 : c ≤ a
      · have HB : Hid (btwB a b c = true) := decide_eq_true (Or.inr ⟨h3, h4⟩)
        go_enter Try.func65, Try.ntmps65
        go_wp2_with fail
        go_ret
        exact ⟨by rw [HB.out]; simp, rfl⟩
      · omega
    · have HB : Hid (btwB a b c = false) := decide_eq_false (by unfold btw; omega)
      go_enter Try.func65, Try.ntmps65
      go_wp2_with fail
      go_ret
      exact ⟨by rw [HB.out]; rfl, rfl⟩

def sameB (a b : Pt) : Bool := decide (a = b)

set_option maxHeartbeats 800000 in
theorem same_any (ax ay bx by' : Int) (w : World) : Calls Try.prog 49 #[.agg #[.int .i64 ax, .int .i64 ay], .agg #[.int .i64 bx, .int .i64 by']] w fun e w' => e = .returned (.bool (sameB (ax, ay) (bx, by'))) ∧ Hid (New w w') := by
  by_cases h1 : ax = bx
  · by_cases h2 : ay = by'
    · have HB : Hid (sameB (ax, ay) (bx, by') = true) := decide_eq_true (by rw [h1, h2])
      go_enter Try.func49, Try.ntmps49
      go_wp2_with fail
      go_ret
      exact ⟨by rw [HB.out]; simp [h2], (New.alloc _ _).alloc' _⟩
    · have HB : Hid (sameB (ax, ay) (bx, by') = false) := decide_eq_false (by rintro ⟨⟩; exact h2 rfl)
      go_enter Try.func49, Try.ntmps49
      go_wp2_with fail
      go_ret
      exact ⟨by rw [HB.out]; simp [h2], (New.alloc _ _).alloc' _⟩
  · have HB : Hid (sameB (ax, ay) (bx, by') = false) := decide_eq_false (by rintro ⟨⟩; exact h1 rfl)
    go_enter Try.func49, Try.ntmps49
    go_wp2_with fail
    go_ret
    exact ⟨by rw [HB.out]; rfl, (New.alloc _ _).alloc' _⟩

theorem onB_eq (a b p : Pt) : onB a b p = (btwB a.1 b.1 p.1 && btwB a.2 b.2 p.2 && decide (D a b p = 0)) := by
  rw [Bool.eq_iff_iff, onB, decide_eq_true_iff]
  simp [btwB, onP, and_assoc]

set_option maxHeartbeats 1600000 in
theorem on_any (ax ay bx by' px py : Int) (w : World) (h1 : Cd ax) (h2 : Cd ay) (h3 : Cd bx) (h4 : Cd by') (h5 : Cd px) (h6 : Cd py) :
    Calls Try.prog 48 #[.agg #[.int .i64 ax, .int .i64 ay], .agg #[.int .i64 bx, .int .i64 by'], .agg #[.int .i64 px, .int .i64 py]] w fun e w' => e = .returned (.bool (onB (ax, ay) (bx, by') (px, py))) ∧ Hid (New w w') := by
  have HC : Hid (Cd ax ∧ Cd ay ∧ Cd bx ∧ Cd by' ∧ Cd px ∧ Cd py) := ⟨h1, h2, h3, h4, h5, h6⟩
  have HE : Hid (onB (ax, ay) (bx, by') (px, py) = (btwB ax bx px && btwB ay by' py && decide (det ax ay bx by' px py = 0))) := onB_eq _ _ _
  clear h1 h2 h3 h4 h5 h6
  go_enter Try.func48, Try.ntmps48
  go_wp2_with fail
  refine (between_any ax bx px _).mono ?_
  rintro e w1 ⟨rfl, rfl⟩
  go_wp2_with fail
  refine (between_any ay by' py _).mono ?_
  rintro e w1 ⟨rfl, rfl⟩
  cases hx : btwB ax bx px with
  | false =>
    rw [hx] at HE
    go_wp2_with fail
    go_ret
    exact ⟨by rw [HE.out]; rfl, ((New.alloc _ _).alloc' _).alloc' _⟩
  | true =>
    cases hy : btwB ay by' py with
    | false =>
      rw [hx, hy] at HE
      go_wp2_with fail
      go_ret
      exact ⟨by rw [HE.out]; rfl, ((New.alloc _ _).alloc' _).alloc' _⟩
    | true =>
      rw [hx, hy] at HE
      go_wp2_with fail
      refine (refSide_any ax ay bx by' px py _ HC.out.1 HC.out.2.1 HC.out.2.2.1 HC.out.2.2.2.1 HC.out.2.2.2.2.1 HC.out.2.2.2.2.2).mono ?_
      rintro e w1 ⟨rfl, H1⟩
      by_cases hz : sgn (det ax ay bx by' px py) = 0
      · have HZ : Hid (decide (det ax ay bx by' px py = 0) = true) := decide_eq_true (sgn_zero.1 hz)
        go_wp2_with fail
        go_ret
        exact ⟨by rw [HE.out, HZ.out]; simp, (((New.alloc _ _).alloc' _).alloc' _).trans' H1.out⟩
      · have HZ : Hid (decide (det ax ay bx by' px py = 0) = false) := decide_eq_false (fun h => hz (sgn_zero.2 h))
        go_wp2_with fail
        go_ret
        exact ⟨by rw [HE.out, HZ.out]; simp [hz], (((New.alloc _ _).alloc' _).alloc' _).trans' H1.out⟩

end Go.Proofs.Ytgeoffpcmkofkaa
