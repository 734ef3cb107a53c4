/- Ne: texts laid into one. -/
import Derived.Test.YtgeoffpcmkofkaaQbh
import Derived.Test.YtgeoffpcmkofkaaQbj
/- plumblaw's 'refused'. -/
namespace Go.Proofs.Ytgeoffpcmkofkaa
open Go.RowKit Fl
set_option maxRecDepth 100000
attribute [local go_sem ↓] Go.wp_at_zero Go.wp_at_succ

set_option maxHeartbeats 800000 in
theorem refused_any (ao : Option Addr) (cap : Nat) (l : Pts) (w : World) (h : PolyAt w ao l) (hc : l.length ≤ cap) (hs : cap ≤ 100000000000000) :
    Calls Try.prog 30 #[.slice ao l.length cap] w fun e w' => e = .returned (.int .i64 (errL l)) ∧ Hid (New w w') := by
  go_enter Try.func30, Try.ntmps30
  go_wp2_with fail
  refine (bad_poly ao cap l w h hc hs).mono ?_
  rintro e w1 ⟨rfl, rfl⟩
  by_cases h40 : 40 < l.length
  · have HE : Hid (errL l = 2) := by rw [Hid, errL, if_pos h40]
    have g1 : (40 : Int) < (l.length : Int) := by omega
    go_wp2_with fail
    go_ret
    exact ⟨by rw [HE.out]; rfl, New.refl _⟩
  · have g1 : ¬(40 : Int) < (l.length : Int) := by omega
    cases hb : okB l with
    | false =>
      have HE : Hid (errL l = 1) := by rw [Hid, errL, if_neg h40, okE, hb]; rfl
      go_wp2_with fail
      go_ret
      exact ⟨by rw [HE.out]; rfl, New.refl _⟩
    | true =>
      have HE : Hid (errL l = 0) := by rw [Hid, errL, if_neg h40, okE, hb]; rfl
      go_wp2_with fail
      go_ret
      exact ⟨by rw [HE.out]; rfl, New.refl _⟩
end Go.Proofs.Ytgeoffpcmkofkaa
