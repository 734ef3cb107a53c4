/- 'Grow' and 'Concat' of package slices, at points. -/
import Derived.Test.YtgeoffpcmkofkaaQd
namespace Go.Proofs.Ytgeoffpcmkofkaa
open Go.RowKit Fl Go.Lib
set_option maxRecDepth 100000
attribute [local go_sem ↓] Go.wp_at_zero Go.wp_at_succ

set_option maxHeartbeats 800000 in
theorem grow_nil (n : Nat) (w : World) (h0 : 0 < n) (hn : n ≤ 1000000) :
    Calls Try.prog 103 #[.slice none 0 0, .int .i64 (n : Int)] w fun e w' => ∃ v, e = .returned v ∧ Hid (New w w' ∧ OwnP w' w.heap.size v []) := by
  obtain ⟨i0, hi0, hz0, hz1, hz2⟩ := info_parts Try.info23
  have k1 := run_append_nil_zeros (P := Try.prog) w 28 3 28 23 i0 _ .i64 .i64 Try.underlying28 Try.underlying3 hi0 hz0 n h0 (by rw [hz1]; omega) (by omega) (by rw [hz2]; omega)
  have HG : Hid (n ≤ grownCap w n 0 23 ∧ grownCap w n 0 23 ≤ maxLen) := ⟨grownCap_ge _ _ _ _, grownCap_le_maxLen _ _ _ _ (by unfold maxLen; omega)⟩
  have HO : Hid (∀ cap cur, cap = grownCap w n 0 23 → cur = Builtin.zeroCells (Value.cells (.agg #[.int .i64 0, .int .i64 0])) n ++ Builtin.zeroCells (Value.cells (.agg #[.int .i64 0, .int .i64 0])) (grownCap w n 0 23 - n) → (w.drew.alloc (.cells cur 23)).ownsRow w.heap.size 23 2 (.slice (some ⟨w.heap.size, 0, none⟩) 0 cap) 0 []) := fun cap cur hc hcur => by
    subst hc
    have h2 := HG.out
    exact World.ownsRow_made w.drew cur _ (Nat.le_refl _) h2.2 (by rw [hcur]; simp [Builtin.zeroCells, Value.cells]; omega)
  obtain ⟨cp, wk, k2, hcp, HK⟩ : ∃ cp wk, (Builtin.append_ #[28, 3] 28 #[.slice none 0 0, .int .i64 (n : Int)]).run Try.prog w = .ok (.slice (some ⟨w.heap.size, 0, none⟩) n cp) wk ∧ n ≤ cp ∧ Hid (New w wk ∧ OwnP wk w.heap.size (.slice (some ⟨w.heap.size, 0, none⟩) 0 cp) []) :=
    ⟨_, _, k1, HG.out.1, ((New.refl w).dr).alloc' _, HO.out _ _ rfl rfl⟩
  clear k1 HG HO hi0 hz0 hz1 hz2
  have hw1 : IntKind.i64.wrap (n : Int) = (n : Int) := by rw [IntKind.wrap_i64]; omega
  have hn0 : ¬((n : Int) < 0) := by omega
  have hn1 : (0 : Int) < (n : Int) := by omega
  go_enter Try.func103, Try.ntmps103
  go_wp2_with (first | (at_builtin; refine Go.Lib.wpList_append_run _ rfl _ _ 28 3 rfl _ _ rfl rfl _ wk k2 ?_) | go_in)
  go_ret
  exact ⟨_, rfl, HK.out⟩

theorem concat_step {w wr : World} {v : Value} {g c : Nat} {xs ys : Pts} (hn : New w wr) (ho : OwnP wr w.heap.size v xs) (hp : PtsAt wr g 0 ys) (hl : xs.length + ys.length ≤ 1000000) :
    ∃ vk wk, (Builtin.append_ #[28, 28] 28 #[v, .slice (some ⟨g, 0, none⟩) ys.length c]).run Try.prog wr = .ok vk wk ∧ Hid (New w wk ∧ OwnP wk w.heap.size vk (xs ++ ys)) := by
  obtain ⟨i0, hi0, hz0, hz1, hz2⟩ := info_parts Try.info23
  obtain ⟨vk, wk, k1, k2, k3, k4⟩ := run_append_own (P := Try.prog) wr w.heap.size 28 28 23 i0 _ 2 16 Try.underlying28 hi0 hz0 hz1 hz2 rfl (by omega) v xs.length (xs.flatMap encP) ho ⟨g, 0, none⟩ ys.length c (ys.flatMap encP) (flat_length lenP ys)
    (fun j u hu => by rw [← flatP_eq] at hu; exact pts_cells hp j u hu) (encP_one ys) (by unfold maxLen; omega) (by omega) (by have := hn.size; omega)
  refine ⟨vk, wk, k1, hn.trans k3 fun g hg => ?_, ?_⟩
  · rcases Nat.lt_or_ge g w.heap.size with h1 | h1
    · exact absurd hg.symm (own_ne ho h1)
    · exact h1
  · unfold OwnP
    rw [List.flatMap_append, List.length_append]
    exact k2

set_option maxHeartbeats 1600000 in
theorem concat_two (gs g1 c1 g2 c2 : Nat) (l1 l2 : Pts) (w : World) (q1 : w.cell? ⟨gs, 0, none⟩ = some (.slice (some ⟨g1, 0, none⟩) l1.length c1)) (q2 : w.cell? ⟨gs, 1, none⟩ = some (.slice (some ⟨g2, 0, none⟩) l2.length c2))
    (hp1 : PtsAt w g1 0 l1) (hp2 : PtsAt w g2 0 l2) (b1 : g1 < w.heap.size) (b2 : g2 < w.heap.size) (h0 : 0 < l1.length + l2.length) (hl : l1.length + l2.length ≤ 1000000) :
    Calls Try.prog 89 #[.slice (some ⟨gs, 0, none⟩) 2 2] w fun e w' => ∃ v, e = .returned v ∧ Hid (New w w' ∧ OwnP w' w.heap.size v (l1 ++ l2)) := by
  have HP : Hid (PtsAt w g1 0 l1 ∧ PtsAt w g2 0 l2 ∧ g1 < w.heap.size ∧ g2 < w.heap.size) := ⟨hp1, hp2, b1, b2⟩
  clear hp1 hp2 b1 b2
  have HQ : Hid (∀ V, New w V → V.cell? ⟨gs, 0, none⟩ = some (.slice (some ⟨g1, 0, none⟩) l1.length c1) ∧ V.cell? ⟨gs, 1, none⟩ = some (.slice (some ⟨g2, 0, none⟩) l2.length c2)) := fun V h => ⟨h.kept' q1, h.kept' q2⟩
  obtain ⟨n1, e1⟩ : ∃ n, n = l1.length := ⟨_, rfl⟩
  obtain ⟨n2, e2⟩ : ∃ n, n = l2.length := ⟨_, rfl⟩
  rw [← e1, ← e2] at h0 hl
  have HE : Hid (n1 = l1.length ∧ n2 = l2.length) := ⟨e1, e2⟩
  rw [← e1] at q1 HQ
  rw [← e2] at q2 HQ
  clear e1 e2
  have wr1 : IntKind.i64.wrap (n1 : Int) = (n1 : Int) := by rw [IntKind.wrap_i64]; omega
  have wr2 : IntKind.i64.wrap ((n1 : Int) + (n2 : Int)) = (n1 : Int) + (n2 : Int) := by rw [IntKind.wrap_i64]; omega
  have n10 : ¬((n1 : Int) < 0) := by omega
  have n20 : ¬((n1 : Int) + (n2 : Int) < 0) := by omega
  go_enter Try.func89, Try.ntmps89
  go_wp2_with fail
  go_loop [3, 11] (fun s i => (i = .int .i64 0 ∧ s = .int .i64 0) ∨ (i = .int .i64 1 ∧ s = .int .i64 (n1 : Int)) ∨ (i = .int .i64 2 ∧ s = .int .i64 ((n1 : Int) + (n2 : Int)))) (fun _ i => 2 - (intOf i).toNat)
  case atStart => exact .inl ⟨rfl, rfl⟩
  case round =>
    rcases hrel with ⟨rfl, rfl⟩ | ⟨rfl, rfl⟩ | ⟨rfl, rfl⟩
    · go_wp2_with fail
      go_round
      case rel => exact .inr (.inl ⟨rfl, rfl⟩)
      case measure => simp [intOf]
    · go_wp2_with fail
      go_round
      case rel => exact .inr (.inr ⟨rfl, rfl⟩)
      case measure => simp [intOf]
    · go_wp2_with fail
      have hg := grow_nil (n1 + n2) w h0 hl
      rw [Int.natCast_add] at hg
      refine hg.mono ?_
      rintro e w1 ⟨v1, rfl, H1⟩
      clear hg
      go_wp2_with fail
      clear q1 q2
      go_loopw [6, 27] (fun v i wr => (i = .int .i64 0 ∧ Hid (New w wr ∧ OwnP wr w.heap.size v [])) ∨ (i = .int .i64 1 ∧ Hid (New w wr ∧ OwnP wr w.heap.size v l1)) ∨ (i = .int .i64 2 ∧ Hid (New w wr ∧ OwnP wr w.heap.size v (l1 ++ l2)))) (fun _ i _ => 2 - (intOf i).toNat)
      case atStart => exact .inl ⟨rfl, H1⟩
      case round =>
        rcases hrel with ⟨rfl, H⟩ | ⟨rfl, H⟩ | ⟨rfl, H⟩
        · obtain ⟨q1, q2⟩ := HQ.out wr H.out.1
          obtain ⟨vk, wk, k1, R⟩ := concat_step (c := c1) H.out.1 H.out.2 (HP.out.1.kept HP.out.2.2.1 H.out.1) (by have := HE.out; simp; omega)
          rw [← HE.out.1] at k1
          go_wp2_with (first | (at_builtin; refine Go.Lib.wpList_append_run _ rfl _ _ 28 28 rfl _ _ rfl rfl vk wk k1 ?_) | go_in)
          go_roundw
          case rel => exact .inr (.inl ⟨rfl, R⟩)
          case measure => simp [intOf]
        · obtain ⟨q1, q2⟩ := HQ.out wr H.out.1
          obtain ⟨vk, wk, k1, R⟩ := concat_step (c := c2) H.out.1 H.out.2 (HP.out.2.1.kept HP.out.2.2.2 H.out.1) (by have := HE.out; omega)
          rw [← HE.out.2] at k1
          go_wp2_with (first | (at_builtin; refine Go.Lib.wpList_append_run _ rfl _ _ 28 28 rfl _ _ rfl rfl vk wk k1 ?_) | go_in)
          go_roundw
          case rel => exact .inr (.inr ⟨rfl, R⟩)
          case measure => simp [intOf]
        · go_wp2_with fail
          go_ret
          exact ⟨_, rfl, H.out⟩
end Go.Proofs.Ytgeoffpcmkofkaa
