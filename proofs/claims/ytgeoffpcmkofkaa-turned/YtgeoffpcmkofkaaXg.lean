/- The walk of 'Turned'. -/
import Derived.Test.YtgeoffpcmkofkaaXf
import Derived.Deep.DrawnRows
namespace Go.Proofs.Ytgeoffpcmkofkaa
open Go.RowKit Fl
set_option maxRecDepth 100000
attribute [local go_sem ↓] Go.wp_at_zero Go.wp_at_succ

theorem c5_mk (w2 : World) (ax ay bx by' cx cy dx dy vx vy : Int) : C5 (((((w2.alloc (.cells #[.int .i64 ax, .int .i64 ay] 23)).alloc (.cells #[.int .i64 bx, .int .i64 by'] 23)).alloc (.cells #[.int .i64 cx, .int .i64 cy] 23)).alloc (.cells #[.int .i64 dx, .int .i64 dy] 23)).alloc (.cells #[.int .i64 vx, .int .i64 vy] 23)) w2.heap.size ax ay bx by' cx cy dx dy vx vy := by
  refine ⟨?_, ?_, ?_, ?_, ?_, ?_, ?_, ?_, ?_, ?_⟩ <;> go_simp



set_option maxRecDepth 100000 in
set_option maxHeartbeats 8000000 in
theorem turned_law (a0 a1 b0 b1 c0 c1 d0 d1 e0 e1 : Int) (w : World) (hin : In64 [(a0, a1), (b0, b1), (c0, c1), (d0, d1), (e0, e1)]) :
    Calls Try.prog 5 #[.agg #[.int .i64 a0, .int .i64 a1], .agg #[.int .i64 b0, .int .i64 b1], .agg #[.int .i64 c0, .int .i64 c1], .agg #[.int .i64 d0, .int .i64 d1], .agg #[.int .i64 e0, .int .i64 e1]] w fun e w' => e = .returned (.bool true) ∧ Hid (New w w') := by
  go_enter Try.func5, Try.ntmps5
  go_wp2_with fail
  refine (sure_any _).mono ?_
  rintro e w1 ⟨rfl, H1⟩
  have r1 := H1.out.rule
  go_wp2_with fail
  refine (fits5 a0 a1 b0 b1 c0 c1 d0 d1 e0 e1 _ _ (by simp) hin).mono ?_
  rintro e w2 ⟨gg, cap, ax, ay, bx, by', cx, cy, dx, dy, vx, vy, rfl, H2, HC⟩
  have HN : Hid (New w w2) := ((((((New.alloc _ _).alloc' _).alloc' _).alloc' _).alloc' _).trans' H1.out).trans' H2.out
  clear r1 H1 H2
  obtain ⟨⟨k0, k1, k2, k3, k4, k5, k6, k7, k8, k9⟩, hgg, hcap, hcm, hp⟩ := HC.out
  have K : Hid (∃ s t u q, Ks ax ay bx by' cx cy dx dy vx vy s t u q) := ⟨_, _, _, _, ks ax ay bx by' cx cy dx dy vx vy k0 k1 k2 k3 k4 k5 k6 k7 k8 k9⟩
  obtain ⟨s, t, u, q, K'⟩ := K.out
  clear K
  have K : Hid (Ks ax ay bx by' cx cy dx dy vx vy s t u q) := K'
  obtain ⟨bs1, bs2⟩ := K'.bs
  obtain ⟨bt1, bt2⟩ := K'.bt
  clear K'
  have z0 : w2.cell? ⟨gg, 0, none⟩ = some (.int .i64 ax) := (hp 0 (by simp)).1
  have z1 : w2.cell? ⟨gg, 1, none⟩ = some (.int .i64 ay) := (hp 0 (by simp)).2
  have z2 : w2.cell? ⟨gg, 2, none⟩ = some (.int .i64 bx) := (hp 1 (by simp)).1
  have z3 : w2.cell? ⟨gg, 3, none⟩ = some (.int .i64 by') := (hp 1 (by simp)).2
  have z4 : w2.cell? ⟨gg, 4, none⟩ = some (.int .i64 cx) := (hp 2 (by simp)).1
  have z5 : w2.cell? ⟨gg, 5, none⟩ = some (.int .i64 cy) := (hp 2 (by simp)).2
  have z6 : w2.cell? ⟨gg, 6, none⟩ = some (.int .i64 dx) := (hp 3 (by simp)).1
  have z7 : w2.cell? ⟨gg, 7, none⟩ = some (.int .i64 dy) := (hp 3 (by simp)).2
  have z8 : w2.cell? ⟨gg, 8, none⟩ = some (.int .i64 vx) := (hp 4 (by simp)).1
  have z9 : w2.cell? ⟨gg, 9, none⟩ = some (.int .i64 vy) := (hp 4 (by simp)).2
  clear hp
  have y6 : ∀ o1 o2 o3, (((w2.alloc o1).alloc o2).alloc o3).cell? ⟨gg, 6, none⟩ = some (.int .i64 dx) := fun o1 o2 o3 => New.cell_kept (((New.alloc w2 o1).alloc' o2).alloc' o3) z6
  have y7 : ∀ o1 o2 o3, (((w2.alloc o1).alloc o2).alloc o3).cell? ⟨gg, 7, none⟩ = some (.int .i64 dy) := fun o1 o2 o3 => New.cell_kept (((New.alloc w2 o1).alloc' o2).alloc' o3) z7
  have y8 : ∀ o1 o2 o3 o4, ((((w2.alloc o1).alloc o2).alloc o3).alloc o4).cell? ⟨gg, 8, none⟩ = some (.int .i64 vx) := fun o1 o2 o3 o4 => New.cell_kept ((((New.alloc w2 o1).alloc' o2).alloc' o3).alloc' o4) z8
  have y9 : ∀ o1 o2 o3 o4, ((((w2.alloc o1).alloc o2).alloc o3).alloc o4).cell? ⟨gg, 9, none⟩ = some (.int .i64 vy) := fun o1 o2 o3 o4 => New.cell_kept ((((New.alloc w2 o1).alloc' o2).alloc' o3).alloc' o4) z9
  clear z6 z7 z8 z9
  unfold maxLen at hcm
  go_wp2_with fail
  clear z0 z1 z2 z3 z4 z5 y6 y7 y8 y9 hgg hcap hcm HC
  replace HN : Hid (New w (((((w2.alloc (.cells #[.int .i64 ax, .int .i64 ay] 23)).alloc (.cells #[.int .i64 bx, .int .i64 by'] 23)).alloc (.cells #[.int .i64 cx, .int .i64 cy] 23)).alloc (.cells #[.int .i64 dx, .int .i64 dy] 23)).alloc (.cells #[.int .i64 vx, .int .i64 vy] 23))) := ((((HN.out.alloc' _).alloc' _).alloc' _).alloc' _).alloc' _
  have C : Hid (C5 (((((w2.alloc (.cells #[.int .i64 ax, .int .i64 ay] 23)).alloc (.cells #[.int .i64 bx, .int .i64 by'] 23)).alloc (.cells #[.int .i64 cx, .int .i64 cy] 23)).alloc (.cells #[.int .i64 dx, .int .i64 dy] 23)).alloc (.cells #[.int .i64 vx, .int .i64 vy] 23)) w2.heap.size ax ay bx by' cx cy dx dy vx vy) := c5_mk w2 ax ay bx by' cx cy dx dy vx vy
  refine (K.out.s1 _).mono ?_
  rintro e w' ⟨rfl, H'⟩
  replace HN : Hid (New w w') := HN.out.trans' H'.out
  replace C : Hid (C5 w' w2.heap.size ax ay bx by' cx cy dx dy vx vy) := C.out.next H'.out
  clear H'
  obtain ⟨c0, c1, c2, c3, c4, c5, c6, c7, c8, c9⟩ := C.out
  go_wp2_with fail
  refine (K.out.t1 _).mono ?_
  rintro e w' ⟨rfl, H'⟩
  replace HN : Hid (New w w') := HN.out.trans' H'.out
  replace C : Hid (C5 w' w2.heap.size ax ay bx by' cx cy dx dy vx vy) := C.out.next H'.out
  clear H' c0 c1 c2 c3 c4 c5 c6 c7 c8 c9
  obtain ⟨c0, c1, c2, c3, c4, c5, c6, c7, c8, c9⟩ := C.out
  go_wp2_with fail
  refine (K.out.s2 _).mono ?_
  rintro e w' ⟨rfl, H'⟩
  replace HN : Hid (New w w') := HN.out.trans' H'.out
  replace C : Hid (C5 w' w2.heap.size ax ay bx by' cx cy dx dy vx vy) := C.out.next H'.out
  clear H' c0 c1 c2 c3 c4 c5 c6 c7 c8 c9
  obtain ⟨c0, c1, c2, c3, c4, c5, c6, c7, c8, c9⟩ := C.out
  go_wp2_with fail
  refine (K.out.s3 _).mono ?_
  rintro e w' ⟨rfl, H'⟩
  replace HN : Hid (New w w') := HN.out.trans' H'.out
  replace C : Hid (C5 w' w2.heap.size ax ay bx by' cx cy dx dy vx vy) := C.out.next H'.out
  clear H' c0 c1 c2 c3 c4 c5 c6 c7 c8 c9
  obtain ⟨c0, c1, c2, c3, c4, c5, c6, c7, c8, c9⟩ := C.out
  go_wp2_with fail
  refine (K.out.s4 _).mono ?_
  rintro e w' ⟨rfl, H'⟩
  replace HN : Hid (New w w') := HN.out.trans' H'.out
  replace C : Hid (C5 w' w2.heap.size ax ay bx by' cx cy dx dy vx vy) := C.out.next H'.out
  clear H' c0 c1 c2 c3 c4 c5 c6 c7 c8 c9
  obtain ⟨c0, c1, c2, c3, c4, c5, c6, c7, c8, c9⟩ := C.out
  go_wp2_with fail
  refine (K.out.s5 _).mono ?_
  rintro e w' ⟨rfl, H'⟩
  replace HN : Hid (New w w') := HN.out.trans' H'.out
  replace C : Hid (C5 w' w2.heap.size ax ay bx by' cx cy dx dy vx vy) := C.out.next H'.out
  clear H' c0 c1 c2 c3 c4 c5 c6 c7 c8 c9
  obtain ⟨c0, c1, c2, c3, c4, c5, c6, c7, c8, c9⟩ := C.out
  go_wp2_with fail
  refine (K.out.t2 _).mono ?_
  rintro e w' ⟨rfl, H'⟩
  replace HN : Hid (New w w') := HN.out.trans' H'.out
  replace C : Hid (C5 w' w2.heap.size ax ay bx by' cx cy dx dy vx vy) := C.out.next H'.out
  clear H' c0 c1 c2 c3 c4 c5 c6 c7 c8 c9
  obtain ⟨c0, c1, c2, c3, c4, c5, c6, c7, c8, c9⟩ := C.out
  go_wp2_with fail
  refine (K.out.t3 _).mono ?_
  rintro e w' ⟨rfl, H'⟩
  replace HN : Hid (New w w') := HN.out.trans' H'.out
  replace C : Hid (C5 w' w2.heap.size ax ay bx by' cx cy dx dy vx vy) := C.out.next H'.out
  clear H' c0 c1 c2 c3 c4 c5 c6 c7 c8 c9
  obtain ⟨c0, c1, c2, c3, c4, c5, c6, c7, c8, c9⟩ := C.out
  go_wp2_with fail
  refine (K.out.t4 _).mono ?_
  rintro e w' ⟨rfl, H'⟩
  replace HN : Hid (New w w') := HN.out.trans' H'.out
  replace C : Hid (C5 w' w2.heap.size ax ay bx by' cx cy dx dy vx vy) := C.out.next H'.out
  clear H' c0 c1 c2 c3 c4 c5 c6 c7 c8 c9
  obtain ⟨c0, c1, c2, c3, c4, c5, c6, c7, c8, c9⟩ := C.out
  go_wp2_with fail
  refine (K.out.t5 _).mono ?_
  rintro e w' ⟨rfl, H'⟩
  replace HN : Hid (New w w') := HN.out.trans' H'.out
  replace C : Hid (C5 w' w2.heap.size ax ay bx by' cx cy dx dy vx vy) := C.out.next H'.out
  clear H' c0 c1 c2 c3 c4 c5 c6 c7 c8 c9
  obtain ⟨c0, c1, c2, c3, c4, c5, c6, c7, c8, c9⟩ := C.out
  go_wp2_with fail
  replace HN : Hid (New w _) := HN.out.drew1
  replace C : Hid (C5 _ w2.heap.size ax ay bx by' cx cy dx dy vx vy) := C.out.next (New.drew1 (New.refl _))
  have hw : IntKind.i64.wrap (-s) = -s := by rw [IntKind.wrap_i64]; omega
  have hb : (-s != -s) = false := by simp
  have F1 : Hid (0 ≤ cap) := Nat.zero_le _
  go_region_held3 (fun w' => w'.cell? ⟨w2.heap.size, 0, none⟩ = some (.int .i64 ax) ∧ w'.cell? ⟨w2.heap.size, 1, none⟩ = some (.int .i64 ay) ∧ w'.cell? ⟨w2.heap.size + 1, 0, none⟩ = some (.int .i64 bx) ∧ w'.cell? ⟨w2.heap.size + 1, 1, none⟩ = some (.int .i64 by') ∧ w'.cell? ⟨w2.heap.size + 1 + 1, 0, none⟩ = some (.int .i64 cx) ∧ w'.cell? ⟨w2.heap.size + 1 + 1, 1, none⟩ = some (.int .i64 cy) ∧ w'.cell? ⟨w2.heap.size + 1 + 1 + 1, 0, none⟩ = some (.int .i64 dx) ∧ w'.cell? ⟨w2.heap.size + 1 + 1 + 1, 1, none⟩ = some (.int .i64 dy) ∧ w'.cell? ⟨w2.heap.size + 1 + 1 + 1 + 1, 0, none⟩ = some (.int .i64 vx) ∧ w'.cell? ⟨w2.heap.size + 1 + 1 + 1 + 1, 1, none⟩ = some (.int .i64 vy))
    (first | exact ⟨C.out.c0, C.out.c1, C.out.c2, C.out.c3, C.out.c4, C.out.c5, C.out.c6, C.out.c7, C.out.c8, C.out.c9⟩ | go_keep)
    (first
      | (go_at_call 20; refine (mirrored_any _ _ _ (by assumption)).mono ?_; rintro e w' ⟨rfl, H'⟩; replace HN : Hid (New w w') := HN.out.trans' H'.out; replace C : Hid (C5 w' w2.heap.size ax ay bx by' cx cy dx dy vx vy) := C.out.next H'.out)
      | (go_at_call 21; refine (turned_any _ _ _).mono ?_; rintro e w' ⟨rfl, H'⟩; replace HN : Hid (New w w') := HN.out.trans' H'.out; replace C : Hid (C5 w' w2.heap.size ax ay bx by' cx cy dx dy vx vy) := C.out.next H'.out)
      | (go_at_call 18; clear F1; refine (K.out.sm _).mono ?_; rintro e w' ⟨rfl, H'⟩; replace HN : Hid (New w w') := HN.out.trans' H'.out; replace C : Hid (C5 w' w2.heap.size ax ay bx by' cx cy dx dy vx vy) := C.out.next H'.out)
      | (go_at_call 18; refine (K.out.st _).mono ?_; rintro e w' ⟨rfl, H'⟩; replace HN : Hid (New w w') := HN.out.trans' H'.out; replace C : Hid (C5 w' w2.heap.size ax ay bx by' cx cy dx dy vx vy) := C.out.next H'.out))
  clear H' c0 c1 c2 c3 c4 c5 c6 c7 c8 c9 hw hb
  obtain ⟨c0, c1, c2, c3, c4, c5, c6, c7, c8, c9⟩ := C.out
  go_wp2_with fail
  replace HN : Hid (New w _) := HN.out.drew1
  replace C : Hid (C5 _ w2.heap.size ax ay bx by' cx cy dx dy vx vy) := C.out.next (New.drew1 (New.refl _))
  have hw : IntKind.i64.wrap (-t) = -t := by rw [IntKind.wrap_i64]; omega
  have hb : (-t != -t) = false := by simp
  have F2 : Hid (0 ≤ cap) := Nat.zero_le _
  go_region_held3 (fun w' => w'.cell? ⟨w2.heap.size, 0, none⟩ = some (.int .i64 ax) ∧ w'.cell? ⟨w2.heap.size, 1, none⟩ = some (.int .i64 ay) ∧ w'.cell? ⟨w2.heap.size + 1, 0, none⟩ = some (.int .i64 bx) ∧ w'.cell? ⟨w2.heap.size + 1, 1, none⟩ = some (.int .i64 by') ∧ w'.cell? ⟨w2.heap.size + 1 + 1, 0, none⟩ = some (.int .i64 cx) ∧ w'.cell? ⟨w2.heap.size + 1 + 1, 1, none⟩ = some (.int .i64 cy) ∧ w'.cell? ⟨w2.heap.size + 1 + 1 + 1, 0, none⟩ = some (.int .i64 dx) ∧ w'.cell? ⟨w2.heap.size + 1 + 1 + 1, 1, none⟩ = some (.int .i64 dy) ∧ w'.cell? ⟨w2.heap.size + 1 + 1 + 1 + 1, 0, none⟩ = some (.int .i64 vx) ∧ w'.cell? ⟨w2.heap.size + 1 + 1 + 1 + 1, 1, none⟩ = some (.int .i64 vy))
    (first | exact ⟨C.out.c0, C.out.c1, C.out.c2, C.out.c3, C.out.c4, C.out.c5, C.out.c6, C.out.c7, C.out.c8, C.out.c9⟩ | go_keep)
    (first
      | (go_at_call 20; refine (mirrored_any _ _ _ (by assumption)).mono ?_; rintro e w' ⟨rfl, H'⟩; replace HN : Hid (New w w') := HN.out.trans' H'.out; replace C : Hid (C5 w' w2.heap.size ax ay bx by' cx cy dx dy vx vy) := C.out.next H'.out)
      | (go_at_call 21; refine (turned_any _ _ _).mono ?_; rintro e w' ⟨rfl, H'⟩; replace HN : Hid (New w w') := HN.out.trans' H'.out; replace C : Hid (C5 w' w2.heap.size ax ay bx by' cx cy dx dy vx vy) := C.out.next H'.out)
      | (go_at_call 19; clear F2; refine (K.out.tm _).mono ?_; rintro e w' ⟨rfl, H'⟩; replace HN : Hid (New w w') := HN.out.trans' H'.out; replace C : Hid (C5 w' w2.heap.size ax ay bx by' cx cy dx dy vx vy) := C.out.next H'.out)
      | (go_at_call 19; refine (K.out.tt _).mono ?_; rintro e w' ⟨rfl, H'⟩; replace HN : Hid (New w w') := HN.out.trans' H'.out; replace C : Hid (C5 w' w2.heap.size ax ay bx by' cx cy dx dy vx vy) := C.out.next H'.out))
  clear H' c0 c1 c2 c3 c4 c5 c6 c7 c8 c9 hw hb
  obtain ⟨c0, c1, c2, c3, c4, c5, c6, c7, c8, c9⟩ := C.out
  go_wp2_with fail
  replace HN : Hid (New w _) := HN.out.drew1
  replace C : Hid (C5 _ w2.heap.size ax ay bx by' cx cy dx dy vx vy) := C.out.next (New.drew1 (New.refl _))
  have F3 : Hid (0 ≤ cap) := Nat.zero_le _
  go_region_held3 (fun w' => w'.cell? ⟨w2.heap.size, 0, none⟩ = some (.int .i64 ax) ∧ w'.cell? ⟨w2.heap.size, 1, none⟩ = some (.int .i64 ay) ∧ w'.cell? ⟨w2.heap.size + 1, 0, none⟩ = some (.int .i64 bx) ∧ w'.cell? ⟨w2.heap.size + 1, 1, none⟩ = some (.int .i64 by') ∧ w'.cell? ⟨w2.heap.size + 1 + 1, 0, none⟩ = some (.int .i64 cx) ∧ w'.cell? ⟨w2.heap.size + 1 + 1, 1, none⟩ = some (.int .i64 cy) ∧ w'.cell? ⟨w2.heap.size + 1 + 1 + 1, 0, none⟩ = some (.int .i64 dx) ∧ w'.cell? ⟨w2.heap.size + 1 + 1 + 1, 1, none⟩ = some (.int .i64 dy) ∧ w'.cell? ⟨w2.heap.size + 1 + 1 + 1 + 1, 0, none⟩ = some (.int .i64 vx) ∧ w'.cell? ⟨w2.heap.size + 1 + 1 + 1 + 1, 1, none⟩ = some (.int .i64 vy))
    (first | exact ⟨C.out.c0, C.out.c1, C.out.c2, C.out.c3, C.out.c4, C.out.c5, C.out.c6, C.out.c7, C.out.c8, C.out.c9⟩ | go_keep)
    (first
      | (go_at_call 22; refine (moved_any _ _ _ _ _ (by assumption) (by assumption) (by assumption) (by assumption)).mono ?_; rintro e w' ⟨rfl, H'⟩; replace HN : Hid (New w w') := HN.out.trans' H'.out; replace C : Hid (C5 w' w2.heap.size ax ay bx by' cx cy dx dy vx vy) := C.out.next H'.out)
      | (go_at_call 23; refine (halved_any _ _ _ (by assumption) (by assumption)).mono ?_; rintro e w' ⟨rfl, H'⟩; replace HN : Hid (New w w') := HN.out.trans' H'.out; replace C : Hid (C5 w' w2.heap.size ax ay bx by' cx cy dx dy vx vy) := C.out.next H'.out)
      | (go_at_call 18; clear F3; refine (K.out.su _).mono ?_; rintro e w' ⟨rfl, H'⟩; replace HN : Hid (New w w') := HN.out.trans' H'.out; replace C : Hid (C5 w' w2.heap.size ax ay bx by' cx cy dx dy vx vy) := C.out.next H'.out)
      | (go_at_call 18; refine (K.out.sh _).mono ?_; rintro e w' ⟨rfl, H'⟩; replace HN : Hid (New w w') := HN.out.trans' H'.out; replace C : Hid (C5 w' w2.heap.size ax ay bx by' cx cy dx dy vx vy) := C.out.next H'.out))
  clear H' c0 c1 c2 c3 c4 c5 c6 c7 c8 c9
  obtain ⟨c0, c1, c2, c3, c4, c5, c6, c7, c8, c9⟩ := C.out
  go_wp2_with fail
  replace HN : Hid (New w _) := HN.out.drew1
  replace C : Hid (C5 _ w2.heap.size ax ay bx by' cx cy dx dy vx vy) := C.out.next (New.drew1 (New.refl _))
  have F4 : Hid (0 ≤ cap) := Nat.zero_le _
  go_region_held3 (fun w' => w'.cell? ⟨w2.heap.size, 0, none⟩ = some (.int .i64 ax) ∧ w'.cell? ⟨w2.heap.size, 1, none⟩ = some (.int .i64 ay) ∧ w'.cell? ⟨w2.heap.size + 1, 0, none⟩ = some (.int .i64 bx) ∧ w'.cell? ⟨w2.heap.size + 1, 1, none⟩ = some (.int .i64 by') ∧ w'.cell? ⟨w2.heap.size + 1 + 1, 0, none⟩ = some (.int .i64 cx) ∧ w'.cell? ⟨w2.heap.size + 1 + 1, 1, none⟩ = some (.int .i64 cy) ∧ w'.cell? ⟨w2.heap.size + 1 + 1 + 1, 0, none⟩ = some (.int .i64 dx) ∧ w'.cell? ⟨w2.heap.size + 1 + 1 + 1, 1, none⟩ = some (.int .i64 dy) ∧ w'.cell? ⟨w2.heap.size + 1 + 1 + 1 + 1, 0, none⟩ = some (.int .i64 vx) ∧ w'.cell? ⟨w2.heap.size + 1 + 1 + 1 + 1, 1, none⟩ = some (.int .i64 vy))
    (first | exact ⟨C.out.c0, C.out.c1, C.out.c2, C.out.c3, C.out.c4, C.out.c5, C.out.c6, C.out.c7, C.out.c8, C.out.c9⟩ | go_keep)
    (first
      | (go_at_call 22; refine (moved_any _ _ _ _ _ (by assumption) (by assumption) (by assumption) (by assumption)).mono ?_; rintro e w' ⟨rfl, H'⟩; replace HN : Hid (New w w') := HN.out.trans' H'.out; replace C : Hid (C5 w' w2.heap.size ax ay bx by' cx cy dx dy vx vy) := C.out.next H'.out)
      | (go_at_call 23; refine (halved_any _ _ _ (by assumption) (by assumption)).mono ?_; rintro e w' ⟨rfl, H'⟩; replace HN : Hid (New w w') := HN.out.trans' H'.out; replace C : Hid (C5 w' w2.heap.size ax ay bx by' cx cy dx dy vx vy) := C.out.next H'.out)
      | (go_at_call 19; clear F4; refine (K.out.tu _).mono ?_; rintro e w' ⟨rfl, H'⟩; replace HN : Hid (New w w') := HN.out.trans' H'.out; replace C : Hid (C5 w' w2.heap.size ax ay bx by' cx cy dx dy vx vy) := C.out.next H'.out)
      | (go_at_call 19; refine (K.out.th _).mono ?_; rintro e w' ⟨rfl, H'⟩; replace HN : Hid (New w w') := HN.out.trans' H'.out; replace C : Hid (C5 w' w2.heap.size ax ay bx by' cx cy dx dy vx vy) := C.out.next H'.out))
  clear H' c0 c1 c2 c3 c4 c5 c6 c7 c8 c9
  obtain ⟨c0, c1, c2, c3, c4, c5, c6, c7, c8, c9⟩ := C.out
  go_wp2_with fail
  go_ret
  exact ⟨rfl, HN⟩

end Go.Proofs.Ytgeoffpcmkofkaa
