/- The walks of 'checkList' and 'Within' of package plumb. -/
import Derived.Test.YtgeoffpcmkofkaaYl
namespace Go.Proofs.Ytgeoffpcmkofkaa
open Go.RowKit Fl
set_option maxRecDepth 100000

set_option maxHeartbeats 800000 in
theorem checkPoints_none (ao : Option Addr) (cap : Nat) (w : World) :
    Calls Try.prog 36 #[.slice ao 0 cap] w fun e w' => e = .returned (.int .i64 (okE [])) ∧ Hid (New w w') := by
  go_enter Try.func36, Try.ntmps36
  go_wp2_with fail
  go_loop [7] (fun iv => iv = .int .i64 0) (fun _ => 0)
  case atStart => rfl
  case round =>
    subst hrel
    go_wp2_with fail
    go_ret
    exact ⟨rfl, New.refl _⟩

theorem checkPoints_poly (ao : Option Addr) (cap : Nat) (l : Pts) (w : World) (h : PolyAt w ao l) (hs : l.length ≤ 100000000000000) :
    Calls Try.prog 36 #[.slice ao l.length cap] w fun e w' => e = .returned (.int .i64 (okE l)) ∧ Hid (New w w') := by
  match l, h, hs with
  | [], _, _ => exact checkPoints_none ao cap w
  | q :: l, h, hs =>
    obtain ⟨g, off, rfl, h1, h2⟩ := h (by simp)
    exact checkPoints_len g off cap (q :: l) w h1 h2 hs

def errL (l : Pts) : Int := if 40 < l.length then 2 else okE l

set_option maxHeartbeats 800000 in
theorem checkList_len (ao : Option Addr) (cap : Nat) (l : Pts) (w : World) (h : PolyAt w ao l) :
    Calls Try.prog 50 #[.slice ao l.length cap] w fun e w' => e = .returned (.int .i64 (errL l)) ∧ Hid (New w w') := by
  by_cases h40 : 40 < l.length
  · have HE : Hid (errL l = 2) := by rw [Hid, errL, if_pos h40]
    go_enter Try.func50, Try.ntmps50
    go_wp2_with fail
    go_ret
    exact ⟨by rw [HE.out]; rfl, New.refl _⟩
  · have HE : Hid (errL l = okE l) := by rw [Hid, errL, if_neg h40]
    have HP : Hid (PolyAt w ao l) := h
    clear h
    go_enter Try.func50, Try.ntmps50
    go_wp2_with fail
    refine (checkPoints_poly ao cap l _ HP.out (by omega)).mono ?_
    rintro e w1 ⟨rfl, H1⟩
    go_wp2_with fail
    go_ret
    exact ⟨by rw [HE.out]; rfl, H1⟩
theorem checkList_any (ao : Option Addr) (cap : Nat) (l : Pts) (w : World) (h : PolyAt w ao l) (_hc : l.length ≤ cap) (_hs : cap ≤ 100000000000000) :
    Calls Try.prog 50 #[.slice ao l.length cap] w fun e w' => e = .returned (.int .i64 (errL l)) ∧ Hid (New w w') := checkList_len ao cap l w h

theorem ptsAt1 {w : World} {g : Nat} {ax ay : Int} (h : w.heap[g]? = some (.cells #[.int .i64 ax, .int .i64 ay] 23 (0, 0))) : PtsAt w g 0 [(ax, ay)] := by
  intro i hi
  rw [cell_of_row w g _ _ 23 (0, 0) h, cell_of_row w g _ _ 23 (0, 0) h]
  match i, hi with
  | 0, _ => exact ⟨rfl, rfl⟩
theorem check1 (ax ay : Int) (W : World) (g : Nat) (hg : g = W.heap.size) :
    Calls Try.prog 36 #[.slice (some ⟨g, 0, none⟩) 1 1] (W.alloc (.cells #[.int .i64 ax, .int .i64 ay] 23)) fun e w' => e = .returned (.int .i64 (okE [(ax, ay)])) ∧ Hid (New W w') := by
  subst hg
  refine (checkPoints_any W.heap.size 0 1 [(ax, ay)] _ (ptsAt1 (_root_.Go.heap_alloc_new W _)) (by simp) (by simp) (by omega)).mono ?_
  rintro e w1 ⟨rfl, H1⟩
  exact ⟨rfl, (New.alloc W _).trans' H1.out⟩

/-- What 'Within' answers. -/
def wErr (l : Pts) (p : Pt) : Int := if errL l = 0 then okE [p] else errL l
def wNum (l : Pts) (p : Pt) : Int := if wErr l p = 0 then withinN l p else 0

theorem errL_vals (l : Pts) : errL l = 0 ∨ errL l = 1 ∨ errL l = 2 := by
  unfold errL okE
  split
  · exact Or.inr (Or.inr rfl)
  · split
    · exact Or.inl rfl
    · exact Or.inr (Or.inl rfl)
theorem okE_vals (l : Pts) : (okE l = 0 ∧ okB l = true) ∨ (okE l = 1 ∧ okB l = false) := by
  unfold okE
  cases okB l
  · exact Or.inr ⟨rfl, rfl⟩
  · exact Or.inl ⟨rfl, rfl⟩
theorem errL_ok {l : Pts} (h : errL l = 0) : l.length ≤ 40 ∧ okB l = true := by
  unfold errL at h
  by_cases h40 : 40 < l.length
  · rw [if_pos h40] at h; omega
  · rw [if_neg h40] at h
    rcases okE_vals l with h1 | h1
    · exact ⟨by omega, h1.2⟩
    · omega

set_option maxHeartbeats 1600000 in
theorem within_len (ao : Option Addr) (cap : Nat) (l : Pts) (px py : Int) (w : World) (h : PolyAt w ao l) :
    Calls Try.prog 27 #[.slice ao l.length cap, .agg #[.int .i64 px, .int .i64 py]] w fun e w' => e = .returned (.tuple #[.int .i64 (wNum l (px, py)), .int .i64 (wErr l (px, py))]) ∧ Hid (New w w') := by
  have HP : Hid (PolyAt w ao l) := h
  clear h
  go_enter Try.func27, Try.ntmps27
  go_wp2_with fail
  refine (checkList_len ao cap l _ (HP.out.kept (New.alloc _ _))).mono ?_
  rintro e w1 ⟨rfl, H1⟩
  have r1 := H1.out.rule
  rcases errL_vals l with hE | hE | hE
  · have HE : Hid (errL l = 0) := hE
    have HW : Hid (wErr l (px, py) = okE [(px, py)]) := by rw [Hid, wErr, if_pos hE]
    go_wp2_with fail
    refine (check1 px py _ _ (by simp)).mono ?_
    rintro e w2 ⟨rfl, H2⟩
    have r2 := (H1.out.trans' H2.out).rule
    clear r1
    rcases okE_vals [(px, py)] with ⟨hO, hB⟩ | ⟨hO, hB⟩
    · have HV : Hid (wNum l (px, py) = withinN l (px, py) ∧ wErr l (px, py) = 0 ∧ CdP (px, py)) := ⟨by rw [wNum, HW.out, if_pos hO], by rw [HW.out, hO], okB_cd hB (p := (px, py)) (by simp)⟩
      clear hB
      go_wp2_with fail
      refine (insideOf_any ao cap l px py _ ((HP.out.kept (New.alloc _ _)).kept (H1.out.trans' H2.out)) (errL_ok HE.out).1 (errL_ok HE.out).2 HV.out.2.2).mono ?_
      rintro e w3 ⟨rfl, H3⟩
      clear r2
      go_wp2_with fail
      go_ret2
      exact ⟨by rw [HV.out.1, HV.out.2.1]; rfl, ((New.alloc _ _).trans' (H1.out.trans' H2.out)).trans' H3.out⟩
    · have HV : Hid (wNum l (px, py) = 0 ∧ wErr l (px, py) = 1) := ⟨by rw [wNum, HW.out, if_neg (by omega)], by rw [HW.out, hO]⟩
      clear hB
      go_wp2_with fail
      go_ret2
      exact ⟨by rw [HV.out.1, HV.out.2]; rfl, (New.alloc _ _).trans' (H1.out.trans' H2.out)⟩
  · have HV : Hid (wNum l (px, py) = 0 ∧ wErr l (px, py) = 1) := by
      have e : wErr l (px, py) = 1 := by rw [wErr, if_neg (by omega)]; exact hE
      exact ⟨by rw [wNum, e]; rfl, e⟩
    go_wp2_with fail
    go_ret2
    exact ⟨by rw [HV.out.1, HV.out.2]; rfl, (New.alloc _ _).trans' H1.out⟩
  · have HV : Hid (wNum l (px, py) = 0 ∧ wErr l (px, py) = 2) := by
      have e : wErr l (px, py) = 2 := by rw [wErr, if_neg (by omega)]; exact hE
      exact ⟨by rw [wNum, e]; rfl, e⟩
    go_wp2_with fail
    go_ret2
    exact ⟨by rw [HV.out.1, HV.out.2]; rfl, (New.alloc _ _).trans' H1.out⟩

theorem within_any (ao : Option Addr) (cap : Nat) (l : Pts) (px py : Int) (w : World) (h : PolyAt w ao l) (_hc : l.length ≤ cap) (_hs : cap ≤ 100000000000000) :
    Calls Try.prog 27 #[.slice ao l.length cap, .agg #[.int .i64 px, .int .i64 py]] w fun e w' => e = .returned (.tuple #[.int .i64 (wNum l (px, py)), .int .i64 (wErr l (px, py))]) ∧ Hid (New w w') := within_len ao cap l px py w h
end Go.Proofs.Ytgeoffpcmkofkaa
