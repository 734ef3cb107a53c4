/- Ws: texts laid into one. -/
import Derived.Test.YtgeoffpcmkofkaaQbf
/- The walks of plumbref's 'Bad' and of the law 'Sides'. -/
namespace Go.Proofs.Ytgeoffpcmkofkaa
open Go.RowKit Fl Dg
set_option maxRecDepth 100000

theorem cd_cases (n : Int) : (n < -9007199254740992 ∧ cdB n = false) ∨ (9007199254740992 < n ∧ cdB n = false) ∨ (-9007199254740992 ≤ n ∧ n ≤ 9007199254740992 ∧ cdB n = true) := by
  by_cases h1 : n < -9007199254740992
  · exact Or.inl ⟨h1, by simp [cdB]; omega⟩
  · by_cases h2 : 9007199254740992 < n
    · exact Or.inr (Or.inl ⟨h2, by simp [cdB]; omega⟩)
    · exact Or.inr (Or.inr ⟨by omega, by omega, by simp [cdB]; omega⟩)

set_option maxHeartbeats 1600000 in
theorem bad_any (g off cap : Nat) (l : Pts) (w : World) (h : PtsAt w g off l) (hc : l.length ≤ cap) (hs : cap ≤ 100000000000000) :
    Calls Try.prog 12 #[.slice (some ⟨g, off, none⟩) l.length cap] w fun e w' => e = .returned (.bool (!okB l)) ∧ w = w' := by
  go_enter Try.func12, Try.ntmps12
  go_wp2_with fail
  go_loop [3] (fun i => ∃ k : Nat, i = .int .i64 k ∧ k ≤ l.length ∧ Hid (okB (l.take k) = true))
    (fun i => l.length - (intOf i).toNat)
  case atStart => exact ⟨0, rfl, Nat.zero_le _, rfl⟩
  case round =>
    obtain ⟨k, rfl, hle, H⟩ := hrel
    by_cases hk : k < l.length
    · have hc1 := (h k hk).1
      have hc2 := (h k hk).2
      obtain ⟨x, hx⟩ : ∃ x, x = l[k].1 := ⟨_, rfl⟩
      obtain ⟨y, hy⟩ : ∃ y, y = l[k].2 := ⟨_, rfl⟩
      rw [← hx] at hc1
      rw [← hy] at hc2
      have HX : Hid (x = l[k].1 ∧ y = l[k].2) := ⟨hx, hy⟩
      clear hx hy
      have fin : cdB x = false ∨ cdB y = false → (!okB l) = true := fun hh => by rw [okB_bad hk (by rw [← HX.out.1, ← HX.out.2]; exact hh)]; rfl
      have FIN : Hid (cdB x = false ∨ cdB y = false → (!okB l) = true) := fin
      clear fin
      rcases cd_cases x with ⟨q1, qx⟩ | ⟨q1, qx⟩ | ⟨q1, q2, qx⟩
      · have HF : Hid ((!okB l) = true) := FIN.out (Or.inl qx)
        clear qx
        go_wp2_with fail
        go_ret
        exact ⟨by rw [HF.out]; rfl, rfl⟩
      · have HF : Hid ((!okB l) = true) := FIN.out (Or.inl qx)
        clear qx
        go_wp2_with fail
        go_ret
        exact ⟨by rw [HF.out]; rfl, rfl⟩
      · have HQ : Hid (cdB x = true) := qx
        clear qx
        rcases cd_cases y with ⟨p1, py⟩ | ⟨p1, py⟩ | ⟨p1, p2, py⟩
        · have HF : Hid ((!okB l) = true) := FIN.out (Or.inr py)
          clear py
          go_wp2_with fail
          go_ret
          exact ⟨by rw [HF.out]; rfl, rfl⟩
        · have HF : Hid ((!okB l) = true) := FIN.out (Or.inr py)
          clear py
          go_wp2_with fail
          go_ret
          exact ⟨by rw [HF.out]; rfl, rfl⟩
        · have HP : Hid (cdB y = true) := py
          clear py
          go_wp2_with fail
          go_round
          case rel => exact ⟨k + 1, by go_num, hk, okB_take hk H.out (by rw [← HX.out.1]; exact HQ.out) (by rw [← HX.out.2]; exact HP.out)⟩
          case measure => simp [intOf]; omega
    · have hk2 : k = l.length := by omega
      subst hk2
      have HO : Hid (okB l = true) := by have := H.out; rwa [List.take_length] at this
      go_wp2_with fail
      go_ret
      exact ⟨by rw [HO.out]; rfl, rfl⟩

theorem bad3 (ax ay bx by' cx cy : Int) (W : World) (g : Nat) (hg : g = W.heap.size) :
    Calls Try.prog 12 #[.slice (some ⟨g, 0, none⟩) 3 3] (W.alloc (.cells #[.int .i64 ax, .int .i64 ay, .int .i64 bx, .int .i64 by', .int .i64 cx, .int .i64 cy] 23)) fun e w' =>
      e = .returned (.bool (!okB [(ax, ay), (bx, by'), (cx, cy)])) ∧ Hid (New W w') := by
  subst hg
  refine (bad_any W.heap.size 0 3 [(ax, ay), (bx, by'), (cx, cy)] _ (ptsAt3 (_root_.Go.heap_alloc_new W _)) (by simp) (by omega)).mono ?_
  rintro e w1 ⟨rfl, rfl⟩
  exact ⟨rfl, New.alloc W _⟩

theorem bad4 (ax ay bx by' cx cy dx dy : Int) (W : World) (g : Nat) (hg : g = W.heap.size) :
    Calls Try.prog 12 #[.slice (some ⟨g, 0, none⟩) 4 4] (W.alloc (.cells #[.int .i64 ax, .int .i64 ay, .int .i64 bx, .int .i64 by', .int .i64 cx, .int .i64 cy, .int .i64 dx, .int .i64 dy] 23)) fun e w' =>
      e = .returned (.bool (!okB [(ax, ay), (bx, by'), (cx, cy), (dx, dy)])) ∧ Hid (New W w') := by
  subst hg
  refine (bad_any W.heap.size 0 4 [(ax, ay), (bx, by'), (cx, cy), (dx, dy)] _ (ptsAt4 (_root_.Go.heap_alloc_new W _)) (by simp) (by omega)).mono ?_
  rintro e w1 ⟨rfl, rfl⟩
  exact ⟨rfl, New.alloc W _⟩

set_option maxHeartbeats 1600000 in
theorem sides_bad (ax ay bx by' cx cy : Int) (w : World) (hok : okB [(ax, ay), (bx, by'), (cx, cy)] = false) :
    Calls Try.prog 3 #[.agg #[.int .i64 ax, .int .i64 ay], .agg #[.int .i64 bx, .int .i64 by'], .agg #[.int .i64 cx, .int .i64 cy]] w fun e w' => e = .returned (.bool true) ∧ Hid (New w w') := by
  have HO : Hid (okB [(ax, ay), (bx, by'), (cx, cy)] = false) := hok
  have HN : Hid ((!okB [(ax, ay), (bx, by'), (cx, cy)]) = true) := by rw [Hid, hok]; rfl
  clear hok
  go_enter Try.func3, Try.ntmps3
  go_wp2_with fail
  refine (side_bad ax ay bx by' cx cy _ HO.out).mono ?_
  rintro e w1 ⟨rfl, H1⟩
  have r1 := H1.out.rule
  go_wp2_with fail
  refine (bad3 ax ay bx by' cx cy _ _ (by simp)).mono ?_
  rintro e w2 ⟨rfl, H2⟩
  have hN := HN.out
  clear r1
  go_wp2_with fail
  go_ret
  exact ⟨rfl, ((((New.alloc _ _).alloc' _).alloc' _).trans' H1.out).trans' H2.out⟩

set_option maxHeartbeats 1600000 in
theorem sides_ok (ax ay bx by' cx cy : Int) (w : World) (hok : okB [(ax, ay), (bx, by'), (cx, cy)] = true) :
    Calls Try.prog 3 #[.agg #[.int .i64 ax, .int .i64 ay], .agg #[.int .i64 bx, .int .i64 by'], .agg #[.int .i64 cx, .int .i64 cy]] w fun e w' => e = .returned (.bool true) ∧ Hid (New w w') := by
  have HO : Hid (okB [(ax, ay), (bx, by'), (cx, cy)] = true) := hok
  have HN : Hid ((!okB [(ax, ay), (bx, by'), (cx, cy)]) = false) := by rw [Hid, hok]; rfl
  have HC : Hid ((Cd ax ∧ Cd ay) ∧ (Cd bx ∧ Cd by') ∧ (Cd cx ∧ Cd cy)) := ⟨okB_cd hok (p := (ax, ay)) (by simp), okB_cd hok (p := (bx, by')) (by simp), okB_cd hok (p := (cx, cy)) (by simp)⟩
  clear hok
  go_enter Try.func3, Try.ntmps3
  go_wp2_with fail
  refine (side_ok ax ay bx by' cx cy _ HO.out).mono ?_
  rintro e w1 ⟨rfl, H1⟩
  have r1 := H1.out.rule
  go_wp2_with fail
  refine (bad3 ax ay bx by' cx cy _ _ (by simp)).mono ?_
  rintro e w2 ⟨rfl, H2⟩
  have hN := HN.out
  have r2 := (H1.out.trans' H2.out).rule
  clear r1
  go_wp2_with fail
  refine (refSide_any ax ay bx by' cx cy _ HC.out.1.1 HC.out.1.2 HC.out.2.1.1 HC.out.2.1.2 HC.out.2.2.1 HC.out.2.2.2).mono ?_
  rintro e w3 ⟨rfl, H3⟩
  clear r2
  go_wp2_with fail
  go_ret
  exact ⟨rfl, (((((New.alloc _ _).alloc' _).alloc' _).trans' H1.out).trans' H2.out).trans' H3.out⟩

theorem sides_any (ax ay bx by' cx cy : Int) (w : World) :
    Calls Try.prog 3 #[.agg #[.int .i64 ax, .int .i64 ay], .agg #[.int .i64 bx, .int .i64 by'], .agg #[.int .i64 cx, .int .i64 cy]] w fun e w' => e = .returned (.bool true) ∧ Hid (New w w') := by
  cases hok : okB [(ax, ay), (bx, by'), (cx, cy)] with
  | true => exact sides_ok ax ay bx by' cx cy w hok
  | false => exact sides_bad ax ay bx by' cx cy w hok

end Go.Proofs.Ytgeoffpcmkofkaa
