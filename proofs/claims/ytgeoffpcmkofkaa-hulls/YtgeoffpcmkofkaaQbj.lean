/- Yp: texts laid into one. -/
import Derived.Test.YtgeoffpcmkofkaaQae
import Derived.Test.YtgeoffpcmkofkaaQbi
/- The walks of plumblaw's 'back' and, over any list, of plumbref's 'Bad'. -/
namespace Go.Proofs.Ytgeoffpcmkofkaa
open Go.RowKit Fl
set_option maxRecDepth 100000
attribute [local go_sem ↓] Go.wp_at_zero Go.wp_at_succ

set_option maxHeartbeats 800000 in
theorem bad_none (ao : Option Addr) (cap : Nat) (w : World) : Calls Try.prog 12 #[.slice ao 0 cap] w fun e w' => e = .returned (.bool (!okB [])) ∧ w = w' := by
  go_enter Try.func12, Try.ntmps12
  go_wp2_with fail
  go_loop [3] (fun iv => iv = .int .i64 0) (fun _ => 0)
  case atStart => rfl
  case round =>
    subst hrel
    go_wp2_with fail
    go_ret
    exact ⟨rfl, rfl⟩
theorem bad_poly (ao : Option Addr) (cap : Nat) (l : Pts) (w : World) (h : PolyAt w ao l) (hc : l.length ≤ cap) (hs : cap ≤ 100000000000000) :
    Calls Try.prog 12 #[.slice ao l.length cap] w fun e w' => e = .returned (.bool (!okB l)) ∧ w = w' := by
  match l, h, hc with
  | [], _, _ => exact bad_none ao cap w
  | q :: l, h, hc =>
    obtain ⟨g, off, rfl, h1, h2⟩ := h (by simp)
    exact bad_any g off cap (q :: l) w h1 hc hs
theorem bad1 (ax ay : Int) (W : World) (g : Nat) (hg : g = W.heap.size) :
    Calls Try.prog 12 #[.slice (some ⟨g, 0, none⟩) 1 1] (W.alloc (.cells #[.int .i64 ax, .int .i64 ay] 23)) fun e w' => e = .returned (.bool (!okB [(ax, ay)])) ∧ Hid (New W w') := by
  subst hg
  refine (bad_any W.heap.size 0 1 [(ax, ay)] _ (ptsAt1 (_root_.Go.heap_alloc_new W _)) (by simp) (by omega)).mono ?_
  rintro e w1 ⟨rfl, rfl⟩
  exact ⟨rfl, New.alloc W _⟩

set_option maxHeartbeats 1600000 in
theorem back_any (b : Nat) (ao : Option Addr) (cap : Nat) (l : Pts) (w : World) (h1 : PtsAt w b 0 (l ++ [(0, 0)])) (h2 : PolyAt w ao l) (hs : cap ≤ 10000000000000) (hc : l.length ≤ cap) :
    Calls Try.prog 28 #[.slice (some ⟨b, 0, none⟩) (l.length + 1) (l.length + 1), .slice ao l.length cap] w fun e w' => e = .returned (.bool true) ∧ Hid (New w w') := by
  have HP : Hid (PtsAt w b 0 (l ++ [(0, 0)]) ∧ PolyAt w ao l) := ⟨h1, h2⟩
  clear h1 h2
  go_enter Try.func28, Try.ntmps28
  go_wp2_with fail
  go_loopw [5] (fun iv wr => ∃ k : Nat, iv = .int .i64 k ∧ k ≤ l.length ∧ Hid (New w wr)) (fun iv _ => l.length - (intOf iv).toNat)
  case atStart => exact ⟨0, rfl, Nat.zero_le _, New.refl _⟩
  case round =>
    obtain ⟨k, rfl, hle, H⟩ := hrel
    have hk0 : (0 : Int) ≤ (k : Int) := by omega
    have hll : (0 : Int) ≤ (l.length : Int) := by omega
    by_cases hk : k < l.length
    · obtain ⟨g, off, hao, hp, _⟩ := HP.out.2 (by omega)
      subst hao
      obtain ⟨x, hx⟩ : ∃ x, x = l[k].1 := ⟨_, rfl⟩
      obtain ⟨y, hy⟩ : ∃ y, y = l[k].2 := ⟨_, rfl⟩
      have u0 : wr.cell? ⟨b, k * 2, none⟩ = some (.int .i64 x) := by
        have := (HP.out.1 k (by simp; omega)).1
        rw [Nat.zero_add, List.getElem_append_left hk, ← hx] at this
        exact H.out.kept this
      have u1 : wr.cell? ⟨b, k * 2 + 1, none⟩ = some (.int .i64 y) := by
        have := (HP.out.1 k (by simp; omega)).2
        rw [Nat.zero_add, List.getElem_append_left hk, ← hy] at this
        exact H.out.kept this
      have v0 : wr.cell? ⟨g, off + k * 2, none⟩ = some (.int .i64 x) := by
        have := (hp k hk).1
        rw [← hx] at this
        exact H.out.kept this
      have v1 : wr.cell? ⟨g, off + k * 2 + 1, none⟩ = some (.int .i64 y) := by
        have := (hp k hk).2
        rw [← hy] at this
        exact H.out.kept this
      have hk1 : (k : Int) < (l.length : Int) := by omega
      have hk2 : (k : Int) < (l.length : Int) + 1 := by omega
      clear hx hy hp
      go_wp2_with fail
      go_region_held3 (fun w' => w'.cell? ⟨b, k * 2, none⟩ = some (.int .i64 x) ∧ w'.cell? ⟨b, k * 2 + 1, none⟩ = some (.int .i64 y) ∧ w'.cell? ⟨g, off + k * 2, none⟩ = some (.int .i64 x) ∧ w'.cell? ⟨g, off + k * 2 + 1, none⟩ = some (.int .i64 y)) (go_keep) (first | fail)
      go_wp2_with fail
      go_roundw
      case rel => exact ⟨k + 1, by go_num, hk, H.out.drewN 1⟩
      case measure => simp [intOf]; omega
    · have hkk : k = l.length := by omega
      subst hkk
      have u0 : wr.cell? ⟨b, l.length * 2, none⟩ = some (.int .i64 0) := by
        have := (HP.out.1 l.length (by simp)).1
        rw [Nat.zero_add, List.getElem_append_right (Nat.le_refl _)] at this
        exact H.out.kept (by simpa using this)
      have u1 : wr.cell? ⟨b, l.length * 2 + 1, none⟩ = some (.int .i64 0) := by
        have := (HP.out.1 l.length (by simp)).2
        rw [Nat.zero_add, List.getElem_append_right (Nat.le_refl _)] at this
        exact H.out.kept (by simpa using this)
      have hk2 : (l.length : Int) < (l.length : Int) + 1 := by omega
      go_wp2_with fail
      go_ret
      exact ⟨rfl, H⟩

end Go.Proofs.Ytgeoffpcmkofkaa
