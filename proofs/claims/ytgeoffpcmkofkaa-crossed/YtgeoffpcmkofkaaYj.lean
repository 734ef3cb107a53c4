/- The walk of 'Crossed'. -/
import Derived.Test.YtgeoffpcmkofkaaYi
import Derived.Deep.DrawnRows
namespace Go.Proofs.Ytgeoffpcmkofkaa
open Go.RowKit Fl
set_option maxRecDepth 100000
attribute [local go_sem ↓] Go.wp_at_zero Go.wp_at_succ

/-- Four points lie in memory. -/
structure P4 (w : World) (B : Nat) (ax ay bx by' cx cy dx dy : Int) : Prop where
  c0 : w.cell? ⟨B, 0, none⟩ = some (.int .i64 ax)
  c1 : w.cell? ⟨B, 1, none⟩ = some (.int .i64 ay)
  c2 : w.cell? ⟨B + 1, 0, none⟩ = some (.int .i64 bx)
  c3 : w.cell? ⟨B + 1, 1, none⟩ = some (.int .i64 by')
  c4 : w.cell? ⟨B + 1 + 1, 0, none⟩ = some (.int .i64 cx)
  c5 : w.cell? ⟨B + 1 + 1, 1, none⟩ = some (.int .i64 cy)
  c6 : w.cell? ⟨B + 1 + 1 + 1, 0, none⟩ = some (.int .i64 dx)
  c7 : w.cell? ⟨B + 1 + 1 + 1, 1, none⟩ = some (.int .i64 dy)
theorem P4.next {w w' : World} {B : Nat} {ax ay bx by' cx cy dx dy : Int} (h : P4 w B ax ay bx by' cx cy dx dy) (H : New w w') : P4 w' B ax ay bx by' cx cy dx dy :=
  ⟨H.cell_kept h.c0, H.cell_kept h.c1, H.cell_kept h.c2, H.cell_kept h.c3, H.cell_kept h.c4, H.cell_kept h.c5, H.cell_kept h.c6, H.cell_kept h.c7⟩
theorem p4_mk (w2 : World) (ax ay bx by' cx cy dx dy : Int) : P4 ((((w2.alloc (.cells #[.int .i64 ax, .int .i64 ay] 23)).alloc (.cells #[.int .i64 bx, .int .i64 by'] 23)).alloc (.cells #[.int .i64 cx, .int .i64 cy] 23)).alloc (.cells #[.int .i64 dx, .int .i64 dy] 23)) w2.heap.size ax ay bx by' cx cy dx dy := by
  refine ⟨?_, ?_, ?_, ?_, ?_, ?_, ?_, ?_⟩ <;> go_simp

set_option maxHeartbeats 8000000 in
theorem crossed_law (a0 a1 b0 b1 c0 c1 d0 d1 : Int) (w : World) (hin : In64 [(a0, a1), (b0, b1), (c0, c1), (d0, d1)]) :
    Calls Try.prog 8 #[.agg #[.int .i64 a0, .int .i64 a1], .agg #[.int .i64 b0, .int .i64 b1], .agg #[.int .i64 c0, .int .i64 c1], .agg #[.int .i64 d0, .int .i64 d1]] w fun e w' => e = .returned (.bool true) ∧ Hid (New w w') := by
  go_enter Try.func8, Try.ntmps8
  go_wp2_with fail
  refine (sure_any _).mono ?_
  rintro e w1 ⟨rfl, H1⟩
  have r1 := H1.out.rule
  go_wp2_with fail
  refine (fits4 a0 a1 b0 b1 c0 c1 d0 d1 _ _ (by simp) hin).mono ?_
  rintro e w2 ⟨gg, cap, ax, ay, bx, by', cx, cy, dx, dy, rfl, H2, HC⟩
  have HN : Hid (New w w2) := (((((New.alloc _ _).alloc' _).alloc' _).alloc' _).trans' H1.out).trans' H2.out
  clear r1 H1 H2
  obtain ⟨⟨k0, k1, k2, k3, k4, k5, k6, k7⟩, hgg, hcap, hcm, hp⟩ := HC.out
  have K : Hid (∃ n own s t u v, Xs ax ay bx by' cx cy dx dy n own s t u v) := ⟨_, _, _, _, _, _, xs ax ay bx by' cx cy dx dy k0 k1 k2 k3 k4 k5 k6 k7⟩
  obtain ⟨n, own, s, t, u, v, K'⟩ := K.out
  clear K
  have K : Hid (Xs ax ay bx by' cx cy dx dy n own s t u v) := K'
  clear K'
  have z0 : w2.cell? ⟨gg, 0, none⟩ = some (.int .i64 ax) := (hp 0 (by simp)).1
  have z1 : w2.cell? ⟨gg, 1, none⟩ = some (.int .i64 ay) := (hp 0 (by simp)).2
  have z2 : w2.cell? ⟨gg, 2, none⟩ = some (.int .i64 bx) := (hp 1 (by simp)).1
  have z3 : w2.cell? ⟨gg, 3, none⟩ = some (.int .i64 by') := (hp 1 (by simp)).2
  have z4 : w2.cell? ⟨gg, 4, none⟩ = some (.int .i64 cx) := (hp 2 (by simp)).1
  have z5 : w2.cell? ⟨gg, 5, none⟩ = some (.int .i64 cy) := (hp 2 (by simp)).2
  have z6 : w2.cell? ⟨gg, 6, none⟩ = some (.int .i64 dx) := (hp 3 (by simp)).1
  have z7 : w2.cell? ⟨gg, 7, none⟩ = some (.int .i64 dy) := (hp 3 (by simp)).2
  clear hp
  have y6 : ∀ o1 o2 o3, (((w2.alloc o1).alloc o2).alloc o3).cell? ⟨gg, 6, none⟩ = some (.int .i64 dx) := fun o1 o2 o3 => New.cell_kept (((New.alloc w2 o1).alloc' o2).alloc' o3) z6
  have y7 : ∀ o1 o2 o3, (((w2.alloc o1).alloc o2).alloc o3).cell? ⟨gg, 7, none⟩ = some (.int .i64 dy) := fun o1 o2 o3 => New.cell_kept (((New.alloc w2 o1).alloc' o2).alloc' o3) z7
  clear z6 z7
  unfold maxLen at hcm
  go_wp2_with fail
  clear z0 z1 z2 z3 z4 z5 y6 y7 hgg hcap hcm HC k0 k1 k2 k3 k4 k5 k6 k7
  replace HN : Hid (New w ((((w2.alloc (.cells #[.int .i64 ax, .int .i64 ay] 23)).alloc (.cells #[.int .i64 bx, .int .i64 by'] 23)).alloc (.cells #[.int .i64 cx, .int .i64 cy] 23)).alloc (.cells #[.int .i64 dx, .int .i64 dy] 23))) := (((HN.out.alloc' _).alloc' _).alloc' _).alloc' _
  have C : Hid (P4 ((((w2.alloc (.cells #[.int .i64 ax, .int .i64 ay] 23)).alloc (.cells #[.int .i64 bx, .int .i64 by'] 23)).alloc (.cells #[.int .i64 cx, .int .i64 cy] 23)).alloc (.cells #[.int .i64 dx, .int .i64 dy] 23)) w2.heap.size ax ay bx by' cx cy dx dy) := p4_mk w2 ax ay bx by' cx cy dx dy
  refine (K.out.m1 _).mono ?_
  rintro e w' ⟨rfl, H'⟩
  replace HN : Hid (New w w') := HN.out.trans' H'.out
  replace C : Hid (P4 w' w2.heap.size ax ay bx by' cx cy dx dy) := C.out.next H'.out
  clear H'
  obtain ⟨c0, c1, c2, c3, c4, c5, c6, c7⟩ := C.out
  go_wp2_with fail
  refine (K.out.m2 _).mono ?_
  rintro e w' ⟨rfl, H'⟩
  replace HN : Hid (New w w') := HN.out.trans' H'.out
  replace C : Hid (P4 w' w2.heap.size ax ay bx by' cx cy dx dy) := C.out.next H'.out
  clear H' c0 c1 c2 c3 c4 c5 c6 c7
  obtain ⟨c0, c1, c2, c3, c4, c5, c6, c7⟩ := C.out
  go_wp2_with fail
  refine (K.out.m3 _).mono ?_
  rintro e w' ⟨rfl, H'⟩
  replace HN : Hid (New w w') := HN.out.trans' H'.out
  replace C : Hid (P4 w' w2.heap.size ax ay bx by' cx cy dx dy) := C.out.next H'.out
  clear H' c0 c1 c2 c3 c4 c5 c6 c7
  obtain ⟨c0, c1, c2, c3, c4, c5, c6, c7⟩ := C.out
  go_wp2_with fail
  refine (K.out.m4 _).mono ?_
  rintro e w' ⟨rfl, H'⟩
  replace HN : Hid (New w w') := HN.out.trans' H'.out
  replace C : Hid (P4 w' w2.heap.size ax ay bx by' cx cy dx dy) := C.out.next H'.out
  clear H' c0 c1 c2 c3 c4 c5 c6 c7
  obtain ⟨c0, c1, c2, c3, c4, c5, c6, c7⟩ := C.out
  go_wp2_with fail
  refine (K.out.m5 _).mono ?_
  rintro e w' ⟨rfl, H'⟩
  replace HN : Hid (New w w') := HN.out.trans' H'.out
  replace C : Hid (P4 w' w2.heap.size ax ay bx by' cx cy dx dy) := C.out.next H'.out
  clear H' c0 c1 c2 c3 c4 c5 c6 c7
  obtain ⟨c0, c1, c2, c3, c4, c5, c6, c7⟩ := C.out
  by_cases q1 : ax = bx
  · subst q1
    by_cases q2 : ay = by'
    · subst q2
      have hown : own = 2 := K.out.same rfl rfl
      go_wp2_with fail
      refine (K.out.s1 _).mono ?_
      rintro e w' ⟨rfl, H'⟩
      replace HN : Hid (New w w') := HN.out.trans' H'.out
      replace C : Hid (P4 w' w2.heap.size ax ay ax ay cx cy dx dy) := C.out.next H'.out
      clear H' c0 c1 c2 c3 c4 c5 c6 c7
      obtain ⟨c0, c1, c2, c3, c4, c5, c6, c7⟩ := C.out
      go_wp2_with fail
      refine (K.out.s2 _).mono ?_
      rintro e w' ⟨rfl, H'⟩
      replace HN : Hid (New w w') := HN.out.trans' H'.out
      replace C : Hid (P4 w' w2.heap.size ax ay ax ay cx cy dx dy) := C.out.next H'.out
      clear H' c0 c1 c2 c3 c4 c5 c6 c7
      obtain ⟨c0, c1, c2, c3, c4, c5, c6, c7⟩ := C.out
      go_wp2_with fail
      refine (K.out.s3 _).mono ?_
      rintro e w' ⟨rfl, H'⟩
      replace HN : Hid (New w w') := HN.out.trans' H'.out
      replace C : Hid (P4 w' w2.heap.size ax ay ax ay cx cy dx dy) := C.out.next H'.out
      clear H' c0 c1 c2 c3 c4 c5 c6 c7
      obtain ⟨c0, c1, c2, c3, c4, c5, c6, c7⟩ := C.out
      go_wp2_with fail
      refine (K.out.s4 _).mono ?_
      rintro e w' ⟨rfl, H'⟩
      replace HN : Hid (New w w') := HN.out.trans' H'.out
      replace C : Hid (P4 w' w2.heap.size ax ay ax ay cx cy dx dy) := C.out.next H'.out
      clear H' c0 c1 c2 c3 c4 c5 c6 c7
      obtain ⟨c0, c1, c2, c3, c4, c5, c6, c7⟩ := C.out
      obtain ⟨p1, p2⟩ := K.out.p1
      obtain ⟨q1, q2⟩ := K.out.p2
      rcases Int.lt_trichotomy (s * t) 0 with p | p | p
      · rcases Int.lt_trichotomy (u * v) 0 with q | q | q
        · have hn : n = 1 := K.out.cross p q
          clear K
          go_wp2_with fail
          go_ret
          exact ⟨rfl, HN⟩
        · rcases K.out.rest (by omega) (by omega) with hn | hn | ⟨hn, e1, e2, e3, e4⟩
          · clear K
            go_wp2_with fail
            go_ret
            exact ⟨rfl, HN⟩
          · clear K
            go_wp2_with fail
            go_ret
            exact ⟨rfl, HN⟩
          · clear K
            go_wp2_with fail
            go_ret
            exact ⟨rfl, HN⟩
        · have hn : n = 0 := K.out.none (Or.inr q)
          clear K
          go_wp2_with fail
          go_ret
          exact ⟨rfl, HN⟩
      · rcases Int.lt_trichotomy (u * v) 0 with q | q | q
        · rcases K.out.rest (by omega) (by omega) with hn | hn | ⟨hn, e1, e2, e3, e4⟩
          · clear K
            go_wp2_with fail
            go_ret
            exact ⟨rfl, HN⟩
          · clear K
            go_wp2_with fail
            go_ret
            exact ⟨rfl, HN⟩
          · clear K
            go_wp2_with fail
            go_ret
            exact ⟨rfl, HN⟩
        · rcases K.out.rest (by omega) (by omega) with hn | hn | ⟨hn, e1, e2, e3, e4⟩
          · clear K
            go_wp2_with fail
            go_ret
            exact ⟨rfl, HN⟩
          · clear K
            go_wp2_with fail
            go_ret
            exact ⟨rfl, HN⟩
          · clear K
            go_wp2_with fail
            go_ret
            exact ⟨rfl, HN⟩
        · have hn : n = 0 := K.out.none (Or.inr q)
          clear K
          go_wp2_with fail
          go_ret
          exact ⟨rfl, HN⟩
      · rcases Int.lt_trichotomy (u * v) 0 with q | q | q
        · have hn : n = 0 := K.out.none (Or.inl p)
          clear K
          go_wp2_with fail
          go_ret
          exact ⟨rfl, HN⟩
        · have hn : n = 0 := K.out.none (Or.inl p)
          clear K
          go_wp2_with fail
          go_ret
          exact ⟨rfl, HN⟩
        · have hn : n = 0 := K.out.none (Or.inl p)
          clear K
          go_wp2_with fail
          go_ret
          exact ⟨rfl, HN⟩
    · have hown : own = 3 := K.out.diff (fun h => q2 h.2)
      go_wp2_with fail
      refine (K.out.s1 _).mono ?_
      rintro e w' ⟨rfl, H'⟩
      replace HN : Hid (New w w') := HN.out.trans' H'.out
      replace C : Hid (P4 w' w2.heap.size ax ay ax by' cx cy dx dy) := C.out.next H'.out
      clear H' c0 c1 c2 c3 c4 c5 c6 c7
      obtain ⟨c0, c1, c2, c3, c4, c5, c6, c7⟩ := C.out
      go_wp2_with fail
      refine (K.out.s2 _).mono ?_
      rintro e w' ⟨rfl, H'⟩
      replace HN : Hid (New w w') := HN.out.trans' H'.out
      replace C : Hid (P4 w' w2.heap.size ax ay ax by' cx cy dx dy) := C.out.next H'.out
      clear H' c0 c1 c2 c3 c4 c5 c6 c7
      obtain ⟨c0, c1, c2, c3, c4, c5, c6, c7⟩ := C.out
      go_wp2_with fail
      refine (K.out.s3 _).mono ?_
      rintro e w' ⟨rfl, H'⟩
      replace HN : Hid (New w w') := HN.out.trans' H'.out
      replace C : Hid (P4 w' w2.heap.size ax ay ax by' cx cy dx dy) := C.out.next H'.out
      clear H' c0 c1 c2 c3 c4 c5 c6 c7
      obtain ⟨c0, c1, c2, c3, c4, c5, c6, c7⟩ := C.out
      go_wp2_with fail
      refine (K.out.s4 _).mono ?_
      rintro e w' ⟨rfl, H'⟩
      replace HN : Hid (New w w') := HN.out.trans' H'.out
      replace C : Hid (P4 w' w2.heap.size ax ay ax by' cx cy dx dy) := C.out.next H'.out
      clear H' c0 c1 c2 c3 c4 c5 c6 c7
      obtain ⟨c0, c1, c2, c3, c4, c5, c6, c7⟩ := C.out
      obtain ⟨p1, p2⟩ := K.out.p1
      obtain ⟨q1, q2⟩ := K.out.p2
      rcases Int.lt_trichotomy (s * t) 0 with p | p | p
      · rcases Int.lt_trichotomy (u * v) 0 with q | q | q
        · have hn : n = 1 := K.out.cross p q
          clear K
          go_wp2_with fail
          go_ret
          exact ⟨rfl, HN⟩
        · rcases K.out.rest (by omega) (by omega) with hn | hn | ⟨hn, e1, e2, e3, e4⟩
          · clear K
            go_wp2_with fail
            go_ret
            exact ⟨rfl, HN⟩
          · clear K
            go_wp2_with fail
            go_ret
            exact ⟨rfl, HN⟩
          · clear K
            go_wp2_with fail
            go_ret
            exact ⟨rfl, HN⟩
        · have hn : n = 0 := K.out.none (Or.inr q)
          clear K
          go_wp2_with fail
          go_ret
          exact ⟨rfl, HN⟩
      · rcases Int.lt_trichotomy (u * v) 0 with q | q | q
        · rcases K.out.rest (by omega) (by omega) with hn | hn | ⟨hn, e1, e2, e3, e4⟩
          · clear K
            go_wp2_with fail
            go_ret
            exact ⟨rfl, HN⟩
          · clear K
            go_wp2_with fail
            go_ret
            exact ⟨rfl, HN⟩
          · clear K
            go_wp2_with fail
            go_ret
            exact ⟨rfl, HN⟩
        · rcases K.out.rest (by omega) (by omega) with hn | hn | ⟨hn, e1, e2, e3, e4⟩
          · clear K
            go_wp2_with fail
            go_ret
            exact ⟨rfl, HN⟩
          · clear K
            go_wp2_with fail
            go_ret
            exact ⟨rfl, HN⟩
          · clear K
            go_wp2_with fail
            go_ret
            exact ⟨rfl, HN⟩
        · have hn : n = 0 := K.out.none (Or.inr q)
          clear K
          go_wp2_with fail
          go_ret
          exact ⟨rfl, HN⟩
      · rcases Int.lt_trichotomy (u * v) 0 with q | q | q
        · have hn : n = 0 := K.out.none (Or.inl p)
          clear K
          go_wp2_with fail
          go_ret
          exact ⟨rfl, HN⟩
        · have hn : n = 0 := K.out.none (Or.inl p)
          clear K
          go_wp2_with fail
          go_ret
          exact ⟨rfl, HN⟩
        · have hn : n = 0 := K.out.none (Or.inl p)
          clear K
          go_wp2_with fail
          go_ret
          exact ⟨rfl, HN⟩
  · have hown : own = 3 := K.out.diff (fun h => q1 h.1)
    go_wp2_with fail
    refine (K.out.s1 _).mono ?_
    rintro e w' ⟨rfl, H'⟩
    replace HN : Hid (New w w') := HN.out.trans' H'.out
    replace C : Hid (P4 w' w2.heap.size ax ay bx by' cx cy dx dy) := C.out.next H'.out
    clear H' c0 c1 c2 c3 c4 c5 c6 c7
    obtain ⟨c0, c1, c2, c3, c4, c5, c6, c7⟩ := C.out
    go_wp2_with fail
    refine (K.out.s2 _).mono ?_
    rintro e w' ⟨rfl, H'⟩
    replace HN : Hid (New w w') := HN.out.trans' H'.out
    replace C : Hid (P4 w' w2.heap.size ax ay bx by' cx cy dx dy) := C.out.next H'.out
    clear H' c0 c1 c2 c3 c4 c5 c6 c7
    obtain ⟨c0, c1, c2, c3, c4, c5, c6, c7⟩ := C.out
    go_wp2_with fail
    refine (K.out.s3 _).mono ?_
    rintro e w' ⟨rfl, H'⟩
    replace HN : Hid (New w w') := HN.out.trans' H'.out
    replace C : Hid (P4 w' w2.heap.size ax ay bx by' cx cy dx dy) := C.out.next H'.out
    clear H' c0 c1 c2 c3 c4 c5 c6 c7
    obtain ⟨c0, c1, c2, c3, c4, c5, c6, c7⟩ := C.out
    go_wp2_with fail
    refine (K.out.s4 _).mono ?_
    rintro e w' ⟨rfl, H'⟩
    replace HN : Hid (New w w') := HN.out.trans' H'.out
    replace C : Hid (P4 w' w2.heap.size ax ay bx by' cx cy dx dy) := C.out.next H'.out
    clear H' c0 c1 c2 c3 c4 c5 c6 c7
    obtain ⟨c0, c1, c2, c3, c4, c5, c6, c7⟩ := C.out
    obtain ⟨p1, p2⟩ := K.out.p1
    obtain ⟨q1, q2⟩ := K.out.p2
    rcases Int.lt_trichotomy (s * t) 0 with p | p | p
    · rcases Int.lt_trichotomy (u * v) 0 with q | q | q
      · have hn : n = 1 := K.out.cross p q
        clear K
        go_wp2_with fail
        go_ret
        exact ⟨rfl, HN⟩
      · rcases K.out.rest (by omega) (by omega) with hn | hn | ⟨hn, e1, e2, e3, e4⟩
        · clear K
          go_wp2_with fail
          go_ret
          exact ⟨rfl, HN⟩
        · clear K
          go_wp2_with fail
          go_ret
          exact ⟨rfl, HN⟩
        · clear K
          go_wp2_with fail
          go_ret
          exact ⟨rfl, HN⟩
      · have hn : n = 0 := K.out.none (Or.inr q)
        clear K
        go_wp2_with fail
        go_ret
        exact ⟨rfl, HN⟩
    · rcases Int.lt_trichotomy (u * v) 0 with q | q | q
      · rcases K.out.rest (by omega) (by omega) with hn | hn | ⟨hn, e1, e2, e3, e4⟩
        · clear K
          go_wp2_with fail
          go_ret
          exact ⟨rfl, HN⟩
        · clear K
          go_wp2_with fail
          go_ret
          exact ⟨rfl, HN⟩
        · clear K
          go_wp2_with fail
          go_ret
          exact ⟨rfl, HN⟩
      · rcases K.out.rest (by omega) (by omega) with hn | hn | ⟨hn, e1, e2, e3, e4⟩
        · clear K
          go_wp2_with fail
          go_ret
          exact ⟨rfl, HN⟩
        · clear K
          go_wp2_with fail
          go_ret
          exact ⟨rfl, HN⟩
        · clear K
          go_wp2_with fail
          go_ret
          exact ⟨rfl, HN⟩
      · have hn : n = 0 := K.out.none (Or.inr q)
        clear K
        go_wp2_with fail
        go_ret
        exact ⟨rfl, HN⟩
    · rcases Int.lt_trichotomy (u * v) 0 with q | q | q
      · have hn : n = 0 := K.out.none (Or.inl p)
        clear K
        go_wp2_with fail
        go_ret
        exact ⟨rfl, HN⟩
      · have hn : n = 0 := K.out.none (Or.inl p)
        clear K
        go_wp2_with fail
        go_ret
        exact ⟨rfl, HN⟩
      · have hn : n = 0 := K.out.none (Or.inl p)
        clear K
        go_wp2_with fail
        go_ret
        exact ⟨rfl, HN⟩

end Go.Proofs.Ytgeoffpcmkofkaa
