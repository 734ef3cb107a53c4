/- The walks of 'checkList' and 'Within' of package plumb. -/
import Derived.Test.YtgeoffpcmkofkaaGreatYb
namespace Go.Proofs.YtgeoffpcmkofkaaGreat
open Go.RowKit Fl
set_option maxRecDepth 100000


def ptAt (l : Pts) (i : Nat) : Pt := l.getD i (0, 0)
theorem ptAt_eq {l : Pts} {i : Nat} (h : i < l.length) : ptAt l i = l[i] := by simp [ptAt, h]
theorem ptAt_cd {l : Pts} (h : okB l = true) {i : Nat} (hi : i < l.length) : CdP (ptAt l i) := by
  rw [ptAt_eq hi]; exact okB_cd h (List.getElem_mem hi)

def PolyAt (w : World) (ao : Option Addr) (l : Pts) : Prop := 0 < l.length → ∃ g off, ao = some ⟨g, off, none⟩ ∧ PtsAt w g off l ∧ g < w.heap.size
theorem PolyAt.kept {w w' : World} {ao : Option Addr} {l : Pts} (h : PolyAt w ao l) (H : New w w') : PolyAt w' ao l := fun h0 => by
  obtain ⟨g, off, e, h1, h2⟩ := h h0
  exact ⟨g, off, e, h1.kept h2 H, Nat.lt_of_lt_of_le h2 H.size⟩

set_option maxHeartbeats 800000 in
theorem checkPoints_none (ao : Option Addr) (cap : Nat) (w : World) :
    Calls Tryz.prog 23 #[.slice ao 0 cap] w fun e w' => e = .returned (.int .i64 (okE [])) ∧ Hid (New w w') := by
  go_enter Tryz.func23, Tryz.ntmps23
  go_wp2_with fail
  go_loop [7] (fun iv => iv = .int .i64 0) (fun _ => 0)
  case atStart => rfl
  case round =>
    subst hrel
    go_wp2_with fail
    go_ret
    exact ⟨rfl, New.refl _⟩

theorem checkPoints_poly (ao : Option Addr) (cap : Nat) (l : Pts) (w : World) (h : PolyAt w ao l) (hc : l.length ≤ cap) (hs : cap ≤ 100000000000000) :
    Calls Tryz.prog 23 #[.slice ao l.length cap] w fun e w' => e = .returned (.int .i64 (okE l)) ∧ Hid (New w w') := by
  match l, h, hc with
  | [], _, _ => exact checkPoints_none ao cap w
  | q :: l, h, hc =>
    obtain ⟨g, off, rfl, h1, h2⟩ := h (by simp)
    exact checkPoints_any g off cap (q :: l) w h1 h2 hc hs

def errL (l : Pts) : Int := if 40 < l.length then 2 else okE l

set_option maxHeartbeats 800000 in
theorem checkList_any (ao : Option Addr) (cap : Nat) (l : Pts) (w : World) (h : PolyAt w ao l) (hc : l.length ≤ cap) (hs : cap ≤ 100000000000000) :
    Calls Tryz.prog 18 #[.slice ao l.length cap] w fun e w' => e = .returned (.int .i64 (errL l)) ∧ Hid (New w w') := by
  by_cases h40 : 40 < l.length
  · have HE : Hid (errL l = 2) := by rw [Hid, errL, if_pos h40]
    go_enter Tryz.func18, Tryz.ntmps18
    go_wp2_with fail
    go_ret
    exact ⟨by rw [HE.out]; rfl, New.refl _⟩
  · have HE : Hid (errL l = okE l) := by rw [Hid, errL, if_neg h40]
    have HP : Hid (PolyAt w ao l) := h
    clear h
    go_enter Tryz.func18, Tryz.ntmps18
    go_wp2_with fail
    refine (checkPoints_poly ao cap l _ HP.out hc hs).mono ?_
    rintro e w1 ⟨rfl, H1⟩
    go_wp2_with fail
    go_ret
    exact ⟨by rw [HE.out]; rfl, H1⟩


theorem errL_vals (l : Pts) : errL l = 0 ∨ errL l = 1 ∨ errL l = 2 := by
  unfold errL okE
  split
  · exact Or.inr (Or.inr rfl)
  · split
    · exact Or.inl rfl
    · exact Or.inr (Or.inl rfl)
theorem okE_vals (l : Pts) : (okE l = 0 ∧ okB l = true) ∨ (okE l = 1 ∧ okB l = false) := by
  unfold okE
  cases okB l
  · exact Or.inr ⟨rfl, rfl⟩
  · exact Or.inl ⟨rfl, rfl⟩
theorem errL_ok {l : Pts} (h : errL l = 0) : l.length ≤ 40 ∧ okB l = true := by
  unfold errL at h
  by_cases h40 : 40 < l.length
  · rw [if_pos h40] at h; omega
  · rw [if_neg h40] at h
    rcases okE_vals l with h1 | h1
    · exact ⟨by omega, h1.2⟩
    · omega


end Go.Proofs.YtgeoffpcmkofkaaGreat
