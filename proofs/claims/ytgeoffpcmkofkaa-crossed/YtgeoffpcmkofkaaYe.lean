/- The walk of 'Meet' of package segment. -/
import Derived.Test.YtgeoffpcmkofkaaYd
namespace Go.Proofs.Ytgeoffpcmkofkaa
open Go.RowKit Fl
set_option maxRecDepth 100000
attribute [local go_sem ↓] Go.wp_at_zero Go.wp_at_succ

/-- Two segments lie in memory. -/
structure C8 (w : World) (B : Nat) (ax ay bx by' cx cy dx dy : Int) : Prop where
  c0 : w.cell? ⟨B, 0, none⟩ = some (.int .i64 ax)
  c1 : w.cell? ⟨B, 1, none⟩ = some (.int .i64 ay)
  c2 : w.cell? ⟨B, 2, none⟩ = some (.int .i64 bx)
  c3 : w.cell? ⟨B, 3, none⟩ = some (.int .i64 by')
  c4 : w.cell? ⟨B + 1, 0, none⟩ = some (.int .i64 cx)
  c5 : w.cell? ⟨B + 1, 1, none⟩ = some (.int .i64 cy)
  c6 : w.cell? ⟨B + 1, 2, none⟩ = some (.int .i64 dx)
  c7 : w.cell? ⟨B + 1, 3, none⟩ = some (.int .i64 dy)
theorem C8.next {w w' : World} {B : Nat} {ax ay bx by' cx cy dx dy : Int} (h : C8 w B ax ay bx by' cx cy dx dy) (H : New w w') : C8 w' B ax ay bx by' cx cy dx dy :=
  ⟨H.kept h.c0, H.kept h.c1, H.kept h.c2, H.kept h.c3, H.kept h.c4, H.kept h.c5, H.kept h.c6, H.kept h.c7⟩
theorem new_drew (w : World) : New w w.drew := (New.refl w).drewN 1

/-- What the four sides tell. -/
structure MeetV (s1 s2 s3 s4 m l : Int) : Prop where
  b1 : -1 ≤ s1 * s2 ∧ s1 * s2 ≤ 1
  b2 : -1 ≤ s3 * s4 ∧ s3 * s4 ≤ 1
  line : s1 = 0 ∧ s2 = 0 ∧ s3 = 0 ∧ s4 = 0 → m = l
  none : ¬(s1 = 0 ∧ s2 = 0 ∧ s3 = 0 ∧ s4 = 0) → 0 < s1 * s2 ∨ 0 < s3 * s4 → m = 0
  cross : ¬(s1 = 0 ∧ s2 = 0 ∧ s3 = 0 ∧ s4 = 0) → s1 * s2 < 0 ∧ s3 * s4 < 0 → m = 1
  touch : ¬(s1 = 0 ∧ s2 = 0 ∧ s3 = 0 ∧ s4 = 0) → ¬(0 < s1 * s2 ∨ 0 < s3 * s4) → ¬(s1 * s2 < 0 ∧ s3 * s4 < 0) → m = 2
theorem sgn_prod (x y : Int) : -1 ≤ sgn x * sgn y ∧ sgn x * sgn y ≤ 1 := by
  rcases sgn_cases x with ⟨_, e⟩ | ⟨_, e⟩ | ⟨_, e⟩ <;> rcases sgn_cases y with ⟨_, f⟩ | ⟨_, f⟩ | ⟨_, f⟩ <;> rw [e, f] <;> omega
theorem meetV (a b c d : Pt) : MeetV (sgn (D a b c)) (sgn (D a b d)) (sgn (D c d a)) (sgn (D c d b)) (meetN a b c d) (lineN a b c d) := by
  refine ⟨sgn_prod _ _, sgn_prod _ _, ?_, ?_, ?_, ?_⟩ <;> unfold meetN <;> simp only [sgn_zero]
  · intro h; rw [if_pos h]
  · intro h h2; rw [if_neg h, if_pos h2]
  · intro h h2; rw [if_neg h, if_neg (by omega), if_pos h2]
  · intro h h2 h3; rw [if_neg h, if_neg h2, if_neg h3]

set_option maxHeartbeats 4000000 in
theorem segMeet_any (ax ay bx by' cx cy dx dy : Int) (w : World) (ha : CdP (ax, ay)) (hb : CdP (bx, by')) (hc : CdP (cx, cy)) (hd : CdP (dx, dy)) :
    Calls Try.prog 47 #[.agg #[.int .i64 ax, .int .i64 ay, .int .i64 bx, .int .i64 by'], .agg #[.int .i64 cx, .int .i64 cy, .int .i64 dx, .int .i64 dy]] w fun e w' => e = .returned (.int .i64 (meetN (ax, ay) (bx, by') (cx, cy) (dx, dy))) ∧ Hid (New w w') := by
  have HC : Hid ((Cd ax ∧ Cd ay) ∧ (Cd bx ∧ Cd by') ∧ (Cd cx ∧ Cd cy) ∧ (Cd dx ∧ Cd dy)) := ⟨ha, hb, hc, hd⟩
  have HP : Hid (CdP (ax, ay) ∧ CdP (bx, by') ∧ CdP (cx, cy) ∧ CdP (dx, dy)) := ⟨ha, hb, hc, hd⟩
  have HV : Hid (MeetV (sgn (det ax ay bx by' cx cy)) (sgn (det ax ay bx by' dx dy)) (sgn (det cx cy dx dy ax ay)) (sgn (det cx cy dx dy bx by')) (meetN (ax, ay) (bx, by') (cx, cy) (dx, dy)) (lineN (ax, ay) (bx, by') (cx, cy) (dx, dy))) := meetV (ax, ay) (bx, by') (cx, cy) (dx, dy)
  clear ha hb hc hd
  go_enter Try.func47, Try.ntmps47
  go_wp2_with fail
  obtain ⟨W, hW⟩ : ∃ W, W = (w.alloc (.cells #[.int .i64 ax, .int .i64 ay, .int .i64 bx, .int .i64 by'] 65)).alloc (.cells #[.int .i64 cx, .int .i64 cy, .int .i64 dx, .int .i64 dy] 65) := ⟨_, rfl⟩
  have HN : Hid (New w W) := by rw [hW]; exact (New.alloc _ _).alloc' _
  have C : Hid (C8 W w.heap.size ax ay bx by' cx cy dx dy) := by rw [hW]; exact ⟨by go_simp, by go_simp, by go_simp, by go_simp, by go_simp, by go_simp, by go_simp, by go_simp⟩
  rw [← hW]
  clear hW
  obtain ⟨c0, c1, c2, c3, c4, c5, c6, c7⟩ := C.out
  replace HN : Hid (New w W.drew) := HN.out.drewN 1
  replace C : Hid (C8 W.drew w.heap.size ax ay bx by' cx cy dx dy) := C.out.next (new_drew _)
  have F1 : Hid (0 ≤ 0) := Nat.le_refl _
  go_region_held3 (fun w' => w'.cell? ⟨w.heap.size, 0, none⟩ = some (.int .i64 ax) ∧ w'.cell? ⟨w.heap.size, 1, none⟩ = some (.int .i64 ay) ∧ w'.cell? ⟨w.heap.size, 2, none⟩ = some (.int .i64 bx) ∧ w'.cell? ⟨w.heap.size, 3, none⟩ = some (.int .i64 by') ∧ w'.cell? ⟨w.heap.size + 1, 0, none⟩ = some (.int .i64 cx) ∧ w'.cell? ⟨w.heap.size + 1, 1, none⟩ = some (.int .i64 cy) ∧ w'.cell? ⟨w.heap.size + 1, 2, none⟩ = some (.int .i64 dx) ∧ w'.cell? ⟨w.heap.size + 1, 3, none⟩ = some (.int .i64 dy))
    (first | exact ⟨C.out.c0, C.out.c1, C.out.c2, C.out.c3, C.out.c4, C.out.c5, C.out.c6, C.out.c7⟩ | go_keep)
    (first
      | (go_at_call 37; clear F1; refine (of_any ax ay bx by' cx cy _ HC.out.1.1 HC.out.1.2 HC.out.2.1.1 HC.out.2.1.2 HC.out.2.2.1.1 HC.out.2.2.1.2).mono ?_; rintro e w' ⟨rfl, H'⟩; replace HN : Hid (New w w') := HN.out.trans' H'.out; replace C : Hid (C8 w' w.heap.size ax ay bx by' cx cy dx dy) := C.out.next H'.out)
      | (go_at_call 37; refine (of_any ax ay bx by' dx dy _ HC.out.1.1 HC.out.1.2 HC.out.2.1.1 HC.out.2.1.2 HC.out.2.2.2.1 HC.out.2.2.2.2).mono ?_; rintro e w' ⟨rfl, H'⟩; replace HN : Hid (New w w') := HN.out.trans' H'.out; replace C : Hid (C8 w' w.heap.size ax ay bx by' cx cy dx dy) := C.out.next H'.out))

  clear H' c0 c1 c2 c3 c4 c5 c6 c7
  obtain ⟨c0, c1, c2, c3, c4, c5, c6, c7⟩ := C.out
  go_wp2_with fail
  replace HN : Hid (New w _) := HN.out.drewN 1
  replace C : Hid (C8 _ w.heap.size ax ay bx by' cx cy dx dy) := C.out.next (new_drew _)
  have F2 : Hid (0 ≤ 0) := Nat.le_refl _
  go_region_held3 (fun w' => w'.cell? ⟨w.heap.size, 0, none⟩ = some (.int .i64 ax) ∧ w'.cell? ⟨w.heap.size, 1, none⟩ = some (.int .i64 ay) ∧ w'.cell? ⟨w.heap.size, 2, none⟩ = some (.int .i64 bx) ∧ w'.cell? ⟨w.heap.size, 3, none⟩ = some (.int .i64 by') ∧ w'.cell? ⟨w.heap.size + 1, 0, none⟩ = some (.int .i64 cx) ∧ w'.cell? ⟨w.heap.size + 1, 1, none⟩ = some (.int .i64 cy) ∧ w'.cell? ⟨w.heap.size + 1, 2, none⟩ = some (.int .i64 dx) ∧ w'.cell? ⟨w.heap.size + 1, 3, none⟩ = some (.int .i64 dy))
    (first | exact ⟨C.out.c0, C.out.c1, C.out.c2, C.out.c3, C.out.c4, C.out.c5, C.out.c6, C.out.c7⟩ | go_keep)
    (first
      | (go_at_call 37; clear F2; refine (of_any cx cy dx dy ax ay _ HC.out.2.2.1.1 HC.out.2.2.1.2 HC.out.2.2.2.1 HC.out.2.2.2.2 HC.out.1.1 HC.out.1.2).mono ?_; rintro e w' ⟨rfl, H'⟩; replace HN : Hid (New w w') := HN.out.trans' H'.out; replace C : Hid (C8 w' w.heap.size ax ay bx by' cx cy dx dy) := C.out.next H'.out)
      | (go_at_call 37; refine (of_any cx cy dx dy bx by' _ HC.out.2.2.1.1 HC.out.2.2.1.2 HC.out.2.2.2.1 HC.out.2.2.2.2 HC.out.2.1.1 HC.out.2.1.2).mono ?_; rintro e w' ⟨rfl, H'⟩; replace HN : Hid (New w w') := HN.out.trans' H'.out; replace C : Hid (C8 w' w.heap.size ax ay bx by' cx cy dx dy) := C.out.next H'.out))

  clear H' c0 c1 c2 c3 c4 c5 c6 c7
  obtain ⟨c0, c1, c2, c3, c4, c5, c6, c7⟩ := C.out
  generalize sgn (det ax ay bx by' cx cy) = s1 at *
  generalize sgn (det ax ay bx by' dx dy) = s2 at *
  generalize sgn (det cx cy dx dy ax ay) = s3 at *
  generalize sgn (det cx cy dx dy bx by') = s4 at *
  obtain ⟨p1, p2⟩ := HV.out.b1
  obtain ⟨q1, q2⟩ := HV.out.b2
  by_cases z1 : s1 = 0
  · by_cases z2 : s2 = 0
    · by_cases z3 : s3 = 0
      · by_cases z4 : s4 = 0
        · have HR : Hid (meetN (ax, ay) (bx, by') (cx, cy) (dx, dy) = lineN (ax, ay) (bx, by') (cx, cy) (dx, dy)) := HV.out.line ⟨z1, z2, z3, z4⟩
          go_wp2_with fail
          refine (line_any ax ay bx by' cx cy dx dy _ HP.out.1 HP.out.2.1 HP.out.2.2.1 HP.out.2.2.2).mono ?_
          rintro e w5 ⟨rfl, H5⟩
          go_wp2_with fail
          go_ret
          exact ⟨by rw [HR.out]; rfl, HN.out.trans' H5.out⟩
        · have nz : ¬(s1 = 0 ∧ s2 = 0 ∧ s3 = 0 ∧ s4 = 0) := fun h => z4 h.2.2.2
          have NZ : Hid (¬(s1 = 0 ∧ s2 = 0 ∧ s3 = 0 ∧ s4 = 0)) := nz
          clear nz
          have p : s1 * s2 = 0 := by rw [z1, Int.zero_mul]
          have q : s3 * s4 = 0 := by rw [z3, Int.zero_mul]
          have HR : Hid (meetN (ax, ay) (bx, by') (cx, cy) (dx, dy) = 2) := HV.out.touch NZ.out (by omega) (by omega)
          go_wp2_with fail
          go_ret
          exact ⟨by rw [HR.out]; rfl, HN⟩
      · have nz : ¬(s1 = 0 ∧ s2 = 0 ∧ s3 = 0 ∧ s4 = 0) := fun h => z3 h.2.2.1
        have NZ : Hid (¬(s1 = 0 ∧ s2 = 0 ∧ s3 = 0 ∧ s4 = 0)) := nz
        clear nz
        have p : s1 * s2 = 0 := by rw [z1, Int.zero_mul]
        rcases Int.lt_trichotomy (s3 * s4) 0 with q | q | q
        · have HR : Hid (meetN (ax, ay) (bx, by') (cx, cy) (dx, dy) = 2) := HV.out.touch NZ.out (by omega) (by omega)
          go_wp2_with fail
          go_ret
          exact ⟨by rw [HR.out]; rfl, HN⟩
        · have HR : Hid (meetN (ax, ay) (bx, by') (cx, cy) (dx, dy) = 2) := HV.out.touch NZ.out (by omega) (by omega)
          go_wp2_with fail
          go_ret
          exact ⟨by rw [HR.out]; rfl, HN⟩
        · have HR : Hid (meetN (ax, ay) (bx, by') (cx, cy) (dx, dy) = 0) := HV.out.none NZ.out (Or.inr q)
          go_wp2_with fail
          go_ret
          exact ⟨by rw [HR.out]; rfl, HN⟩
    · have nz : ¬(s1 = 0 ∧ s2 = 0 ∧ s3 = 0 ∧ s4 = 0) := fun h => z2 h.2.1
      have NZ : Hid (¬(s1 = 0 ∧ s2 = 0 ∧ s3 = 0 ∧ s4 = 0)) := nz
      clear nz
      have p : s1 * s2 = 0 := by rw [z1, Int.zero_mul]
      rcases Int.lt_trichotomy (s3 * s4) 0 with q | q | q
      · have HR : Hid (meetN (ax, ay) (bx, by') (cx, cy) (dx, dy) = 2) := HV.out.touch NZ.out (by omega) (by omega)
        go_wp2_with fail
        go_ret
        exact ⟨by rw [HR.out]; rfl, HN⟩
      · have HR : Hid (meetN (ax, ay) (bx, by') (cx, cy) (dx, dy) = 2) := HV.out.touch NZ.out (by omega) (by omega)
        go_wp2_with fail
        go_ret
        exact ⟨by rw [HR.out]; rfl, HN⟩
      · have HR : Hid (meetN (ax, ay) (bx, by') (cx, cy) (dx, dy) = 0) := HV.out.none NZ.out (Or.inr q)
        go_wp2_with fail
        go_ret
        exact ⟨by rw [HR.out]; rfl, HN⟩
  · have nz : ¬(s1 = 0 ∧ s2 = 0 ∧ s3 = 0 ∧ s4 = 0) := fun h => z1 h.1
    have NZ : Hid (¬(s1 = 0 ∧ s2 = 0 ∧ s3 = 0 ∧ s4 = 0)) := nz
    clear nz
    rcases Int.lt_trichotomy (s1 * s2) 0 with p | p | p
    · rcases Int.lt_trichotomy (s3 * s4) 0 with q | q | q
      · have HR : Hid (meetN (ax, ay) (bx, by') (cx, cy) (dx, dy) = 1) := HV.out.cross NZ.out ⟨p, q⟩
        go_wp2_with fail
        go_ret
        exact ⟨by rw [HR.out]; rfl, HN⟩
      · have HR : Hid (meetN (ax, ay) (bx, by') (cx, cy) (dx, dy) = 2) := HV.out.touch NZ.out (by omega) (by omega)
        go_wp2_with fail
        go_ret
        exact ⟨by rw [HR.out]; rfl, HN⟩
      · have HR : Hid (meetN (ax, ay) (bx, by') (cx, cy) (dx, dy) = 0) := HV.out.none NZ.out (Or.inr q)
        go_wp2_with fail
        go_ret
        exact ⟨by rw [HR.out]; rfl, HN⟩
    · rcases Int.lt_trichotomy (s3 * s4) 0 with q | q | q
      · have HR : Hid (meetN (ax, ay) (bx, by') (cx, cy) (dx, dy) = 2) := HV.out.touch NZ.out (by omega) (by omega)
        go_wp2_with fail
        go_ret
        exact ⟨by rw [HR.out]; rfl, HN⟩
      · have HR : Hid (meetN (ax, ay) (bx, by') (cx, cy) (dx, dy) = 2) := HV.out.touch NZ.out (by omega) (by omega)
        go_wp2_with fail
        go_ret
        exact ⟨by rw [HR.out]; rfl, HN⟩
      · have HR : Hid (meetN (ax, ay) (bx, by') (cx, cy) (dx, dy) = 0) := HV.out.none NZ.out (Or.inr q)
        go_wp2_with fail
        go_ret
        exact ⟨by rw [HR.out]; rfl, HN⟩
    · have HR : Hid (meetN (ax, ay) (bx, by') (cx, cy) (dx, dy) = 0) := HV.out.none NZ.out (Or.inl p)
      go_wp2_with fail
      go_ret
      exact ⟨by rw [HR.out]; rfl, HN⟩

end Go.Proofs.Ytgeoffpcmkofkaa
