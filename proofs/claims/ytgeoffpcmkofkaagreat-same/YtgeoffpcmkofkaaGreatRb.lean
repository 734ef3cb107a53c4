/- The walks of package mesh: 'inLine', 'joinLine', 'seenFrom'. -/
import Derived.Test.YtgeoffpcmkofkaaGreatRa
import Derived.Test.YtgeoffpcmkofkaaGreatWi
namespace Go.Proofs.YtgeoffpcmkofkaaGreat
open Go.RowKit Go.Maps Fl
set_option maxRecDepth 100000
attribute [local go_sem ↓] Go.wp_at_zero Go.wp_at_succ

/-- They lie in the line of the first two, up to there. -/
structure InL (s : Pts) (n : Nat) : Prop where
  ge : min 2 s.length ≤ n
  le : n ≤ s.length
  line : ∀ i, i < n → D (ptAt s 0) (ptAt s 1) (ptAt s i) = 0

set_option maxHeartbeats 1600000 in
theorem inLine_gen (base g cap N : Nat) (s : Pts) (w : World) (HN : Hid (s.length = N)) (h : OwnP w base (.slice (some ⟨g, 0, none⟩) s.length cap) s) (hl : N ≤ 1000000) (hc : ∀ x ∈ s, CdP x) :
    Calls Tryz.prog 36 #[.slice (some ⟨g, 0, none⟩) N cap] w fun e w' => ∃ n : Nat, e = .returned (.int .i64 n) ∧ Hid (New w w' ∧ InL s n ∧ (n < N → D (ptAt s 0) (ptAt s 1) (ptAt s n) ≠ 0)) := by
  have H : Hid (OwnP w base (.slice (some ⟨g, 0, none⟩) s.length cap) s ∧ ∀ x ∈ s, CdP x) := ⟨h, hc⟩
  clear h hc
  go_enter Tryz.func36, Tryz.ntmps36
  go_wp2_with fail
  go_loopw [3] (fun v wr => ∃ n : Nat, v = .int .i64 (n : Int) ∧ n ≤ N ∧ min 2 N ≤ n ∧ Hid (New w wr ∧ InL s n)) (fun v _ => N - (intOf v).toNat)
  case atStart =>
    refine ⟨min 2 N, by rw [show ((min 2 N : Nat) : Int) = min 2 (N : Int) by omega], Nat.min_le_right _ _, Nat.le_refl _, New.refl _, by rw [HN.out]; exact Nat.le_refl _, by rw [HN.out]; exact Nat.min_le_right _ _, fun i hi => ?_⟩
    have : i = 0 ∨ i = 1 := by omega
    rcases this with rfl | rfl
    · exact D_same1 _ _
    · exact D_same2 _ _
  case round =>
    obtain ⟨n, rfl, hn, hn2, HR⟩ := hrel
    rcases Nat.lt_or_ge n N with hk | hk
    · have hN := HN.out
      have HO : Hid (OwnP wr base (.slice (some ⟨g, 0, none⟩) s.length cap) s) := H.out.1.new HR.out.1
      obtain ⟨a0, a1⟩ := HO.out.cell (show 0 < s.length by omega)
      obtain ⟨b0, b1⟩ := HO.out.cell (show 1 < s.length by omega)
      obtain ⟨c0, c1⟩ := HO.out.cell (show n < s.length by omega)
      rw [← ptAt_eq] at a0 a1 b0 b1 c0 c1
      have CA : Hid (CdP (ptAt s 0) ∧ CdP (ptAt s 1) ∧ CdP (ptAt s n)) := ⟨by rw [ptAt_eq (by omega)]; exact H.out.2 _ (List.getElem_mem _), by rw [ptAt_eq (by omega)]; exact H.out.2 _ (List.getElem_mem _), by rw [ptAt_eq (by omega)]; exact H.out.2 _ (List.getElem_mem _)⟩
      obtain ⟨pa, ha⟩ : ∃ pa, pa = ptAt s 0 := ⟨_, rfl⟩
      obtain ⟨pb, hb⟩ : ∃ pb, pb = ptAt s 1 := ⟨_, rfl⟩
      obtain ⟨pc, hc⟩ : ∃ pc, pc = ptAt s n := ⟨_, rfl⟩
      rw [← ha] at a0 a1
      rw [← hb] at b0 b1
      rw [← hc] at c0 c1
      rw [← ha, ← hb, ← hc] at CA
      have HE : Hid (pa = ptAt s 0 ∧ pb = ptAt s 1 ∧ pc = ptAt s n) := ⟨ha, hb, hc⟩
      clear ha hb hc
      simp only [Nat.zero_mul, Nat.zero_add, Nat.one_mul] at a0 a1 b0 b1
      have i0 : (0 : Int) ≤ (n : Int) := by omega
      have i1 : (n : Int) < (N : Int) := by omega
      have i2 : (0 : Int) < (N : Int) := by omega
      have i3 : (1 : Int) < (N : Int) := by omega
      have i5 : 0 < N := by omega
      have i6 : 1 < N := by omega
      clear hN
      have hgl : g < wr.heap.size := World.block_lt_of_cell? wr _ a0
      have KS : Hid (∀ V, New wr V → V.cell? ⟨g, 0, none⟩ = some (.int .i64 pa.1) ∧ V.cell? ⟨g, 1, none⟩ = some (.int .i64 pa.2) ∧ V.cell? ⟨g, 2, none⟩ = some (.int .i64 pb.1) ∧ V.cell? ⟨g, 3, none⟩ = some (.int .i64 pb.2) ∧ V.cell? ⟨g, n * 2, none⟩ = some (.int .i64 pc.1) ∧ V.cell? ⟨g, n * 2 + 1, none⟩ = some (.int .i64 pc.2)) := fun V hV => ⟨hV.kept a0, hV.kept a1, hV.kept b0, hV.kept b1, hV.kept c0, hV.kept c1⟩
      have hw1 : IntKind.i64.wrap ((n : Int) + 1) = (n : Int) + 1 := by rw [IntKind.wrap_i64]; omega
      have CN : Hid (New wr wr.drew) := (New.refl wr).dr
      go_wp2_with fail
      go_region_held3 (fun V => V.cell? ⟨g, 0, none⟩ = some (.int .i64 pa.1) ∧ V.cell? ⟨g, 1, none⟩ = some (.int .i64 pa.2) ∧ V.cell? ⟨g, 2, none⟩ = some (.int .i64 pb.1) ∧ V.cell? ⟨g, 3, none⟩ = some (.int .i64 pb.2) ∧ V.cell? ⟨g, n * 2, none⟩ = some (.int .i64 pc.1) ∧ V.cell? ⟨g, n * 2 + 1, none⟩ = some (.int .i64 pc.2))
        (exact KS.out _ CN.out)
        (first | (go_at_call 24; refine (of_any pa.1 pa.2 pb.1 pb.2 pc.1 pc.2 _ CA.out.1.1 CA.out.1.2 CA.out.2.1.1 CA.out.2.1.2 CA.out.2.2.1 CA.out.2.2.2).mono ?_; rintro e w1 ⟨rfl, H1⟩; replace CN : Hid (New wr w1) := CN.out.trans' H1.out; clear H1))
      clear a0 a1 b0 b1 c0 c1
      by_cases hd : sgn (det pa.1 pa.2 pb.1 pb.2 pc.1 pc.2) = 0
      · have HD : Hid (InL s (n + 1)) := by
          have hN := HN.out
          refine ⟨by omega, by omega, fun i hi => ?_⟩
          rcases Nat.lt_or_ge i n with k | k
          · exact HR.out.2.line i k
          · have e : i = n := by omega
            subst e
            rw [← HE.out.1, ← HE.out.2.1, ← HE.out.2.2]
            exact sgn_zero.1 hd
        go_wp2_with fail
        go_roundw
        case rel => exact ⟨n + 1, by go_num, by omega, by omega, HR.out.1.trans' CN.out, HD.out⟩
        case measure => simp [intOf]; omega
      · have HD : Hid (D (ptAt s 0) (ptAt s 1) (ptAt s n) ≠ 0) := by
          rw [Hid, ← HE.out.1, ← HE.out.2.1, ← HE.out.2.2]
          exact fun k => hd (sgn_zero.2 k)
        go_wp2_with fail
        go_ret
        exact ⟨n, rfl, HR.out.1.trans' CN.out, HR.out.2, fun _ => HD.out⟩
    · have e : n = N := by omega
      subst e
      go_wp2_with fail
      go_quiet (fail)
      go_wp2_with fail
      go_ret
      exact ⟨n, rfl, HR.out.1.drewN _, HR.out.2, fun k => by omega⟩

theorem inLine_some (base g cap : Nat) (s : Pts) (w : World) (h : OwnP w base (.slice (some ⟨g, 0, none⟩) s.length cap) s) (hl : s.length ≤ 1000000) (hc : ∀ x ∈ s, CdP x) :
    Calls Tryz.prog 36 #[.slice (some ⟨g, 0, none⟩) s.length cap] w fun e w' => ∃ n : Nat, e = .returned (.int .i64 n) ∧ Hid (New w w' ∧ InL s n ∧ (n < s.length → D (ptAt s 0) (ptAt s 1) (ptAt s n) ≠ 0)) := inLine_gen base g cap s.length s w rfl h hl hc

set_option maxHeartbeats 800000 in
theorem inLine_nil (w : World) : Calls Tryz.prog 36 #[.slice none 0 0] w fun e w' => e = .returned (.int .i64 0) ∧ Hid (New w w') := by
  go_enter Tryz.func36, Tryz.ntmps36
  go_wp2_with fail
  go_loop [3] (fun v => v = .int .i64 0) (fun _ => 0)
  case atStart => rfl
  case round =>
    subst hrel
    go_wp2_with fail
    go_quiet (fail)
    go_wp2_with fail
    go_ret
    exact ⟨rfl, (New.refl _).drewN _⟩

end Go.Proofs.YtgeoffpcmkofkaaGreat
