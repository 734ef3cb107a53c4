/- What 'Crossed' asks of 'Meet' and of sides. -/
import Derived.Test.YtgeoffpcmkofkaaYf
import Derived.Test.YtgeoffpcmkofkaaXf
namespace Go.Proofs.Ytgeoffpcmkofkaa
open Go.RowKit Fl
set_option maxRecDepth 100000

theorem lineN_comm (a b c d : Pt) : lineN c d a b = lineN a b c d := by
  unfold lineN
  rw [Int.max_comm (min (K c) (K d)), Int.min_comm (max (K c) (K d))]
theorem lineN_swap (a b c d : Pt) : lineN b a d c = lineN a b c d := by
  unfold lineN
  rw [Int.min_comm (K b), Int.max_comm (K b), Int.min_comm (K d), Int.max_comm (K d)]

theorem meetN_comm (a b c d : Pt) : meetN c d a b = meetN a b c d := by
  have h1 := meetV a b c d
  have h2 := meetV c d a b
  rw [lineN_comm] at h2
  by_cases z : sgn (D a b c) = 0 ∧ sgn (D a b d) = 0 ∧ sgn (D c d a) = 0 ∧ sgn (D c d b) = 0
  · rw [h1.line z, h2.line ⟨z.2.2.1, z.2.2.2, z.1, z.2.1⟩]
  · have z' : ¬(sgn (D c d a) = 0 ∧ sgn (D c d b) = 0 ∧ sgn (D a b c) = 0 ∧ sgn (D a b d) = 0) := fun h => z ⟨h.2.2.1, h.2.2.2, h.1, h.2.1⟩
    by_cases p : 0 < sgn (D a b c) * sgn (D a b d) ∨ 0 < sgn (D c d a) * sgn (D c d b)
    · rw [h1.none z p, h2.none z' p.symm]
    · by_cases q : sgn (D a b c) * sgn (D a b d) < 0 ∧ sgn (D c d a) * sgn (D c d b) < 0
      · rw [h1.cross z q, h2.cross z' q.symm]
      · rw [h1.touch z p q, h2.touch z' (fun h => p h.symm) (fun h => q h.symm)]
theorem sgn_neg2 (x y : Int) : sgn (-x) * sgn (-y) = sgn y * sgn x := by
  rw [sgn_neg, sgn_neg, Int.neg_mul_neg, Int.mul_comm]
theorem meetN_swap (a b c d : Pt) : meetN b a d c = meetN a b c d := by
  have h1 := meetV a b c d
  have h2 := meetV b a d c
  rw [lineN_swap] at h2
  have e1 : D b a d = -D a b d := D_swap a b d
  have e2 : D b a c = -D a b c := D_swap a b c
  have e3 : D d c b = -D c d b := D_swap c d b
  have e4 : D d c a = -D c d a := D_swap c d a
  rw [e1, e2, e3, e4] at h2
  have n1 := sgn_neg2 (D a b d) (D a b c)
  have n2 := sgn_neg2 (D c d b) (D c d a)
  by_cases z : sgn (D a b c) = 0 ∧ sgn (D a b d) = 0 ∧ sgn (D c d a) = 0 ∧ sgn (D c d b) = 0
  · rw [h1.line z, h2.line (by simp only [sgn_neg]; omega)]
  · have z' : ¬(sgn (-D a b d) = 0 ∧ sgn (-D a b c) = 0 ∧ sgn (-D c d b) = 0 ∧ sgn (-D c d a) = 0) := by simp only [sgn_neg]; omega
    by_cases p : 0 < sgn (D a b c) * sgn (D a b d) ∨ 0 < sgn (D c d a) * sgn (D c d b)
    · rw [h1.none z p, h2.none z' (by rw [n1, n2]; exact p)]
    · by_cases q : sgn (D a b c) * sgn (D a b d) < 0 ∧ sgn (D c d a) * sgn (D c d b) < 0
      · rw [h1.cross z q, h2.cross z' (by rw [n1, n2]; exact q)]
      · rw [h1.touch z p q, h2.touch z' (by rw [n1, n2]; exact p) (by rw [n1, n2]; exact q)]
theorem meetN_line {a b c d : Pt} (h1 : D a b c = 0) (h2 : D a b d = 0) (h3 : D c d a = 0) (h4 : D c d b = 0) : meetN a b c d = lineN a b c d := by
  unfold meetN; rw [if_pos ⟨h1, h2, h3, h4⟩]
theorem meetN_own (a b : Pt) : meetN a b b a = lineN a b b a := meetN_line (D_right a b) (D_left a b) (D_right b a) (D_left b a)
theorem meetN_own_same (a : Pt) : meetN a a a a = 2 := by
  rw [meetN_own]; unfold lineN; rw [if_neg (by omega), if_pos (by omega)]
theorem meetN_own_diff {a b : Pt} (ha : CdP a) (hb : CdP b) (h : a ≠ b) : meetN a b b a = 3 := by
  have : K a ≠ K b := fun e => h (K_inj ha hb e)
  rw [meetN_own]; unfold lineN; rw [if_pos (by omega)]
theorem meetN_end (a b : Pt) : meetN a b b b = 2 := by
  rw [meetN_line (D_right a b) (D_right a b) (D_same b a) (D_same b b)]; unfold lineN; rw [if_neg (by omega), if_pos (by omega)]
theorem lineN_vals (a b c d : Pt) : lineN a b c d = 0 ∨ lineN a b c d = 2 ∨ lineN a b c d = 3 := by
  unfold lineN
  split
  · exact Or.inr (Or.inr rfl)
  · split
    · exact Or.inr (Or.inl rfl)
    · exact Or.inl rfl

/-- What the calls of 'Crossed' answer. -/
structure Xs (ax ay bx by' cx cy dx dy n own s t u v : Int) : Prop where
  m1 : To 24 #[.agg #[.int .i64 ax, .int .i64 ay], .agg #[.int .i64 bx, .int .i64 by'], .agg #[.int .i64 cx, .int .i64 cy], .agg #[.int .i64 dx, .int .i64 dy]] (.tuple #[.int .i64 n, .int .i64 0])
  m2 : To 24 #[.agg #[.int .i64 cx, .int .i64 cy], .agg #[.int .i64 dx, .int .i64 dy], .agg #[.int .i64 ax, .int .i64 ay], .agg #[.int .i64 bx, .int .i64 by']] (.tuple #[.int .i64 n, .int .i64 0])
  m3 : To 24 #[.agg #[.int .i64 bx, .int .i64 by'], .agg #[.int .i64 ax, .int .i64 ay], .agg #[.int .i64 dx, .int .i64 dy], .agg #[.int .i64 cx, .int .i64 cy]] (.tuple #[.int .i64 n, .int .i64 0])
  m4 : To 24 #[.agg #[.int .i64 ax, .int .i64 ay], .agg #[.int .i64 bx, .int .i64 by'], .agg #[.int .i64 bx, .int .i64 by'], .agg #[.int .i64 ax, .int .i64 ay]] (.tuple #[.int .i64 own, .int .i64 0])
  m5 : To 24 #[.agg #[.int .i64 ax, .int .i64 ay], .agg #[.int .i64 bx, .int .i64 by'], .agg #[.int .i64 bx, .int .i64 by'], .agg #[.int .i64 bx, .int .i64 by']] (.tuple #[.int .i64 2, .int .i64 0])
  s1 : To 18 #[.agg #[.int .i64 ax, .int .i64 ay], .agg #[.int .i64 bx, .int .i64 by'], .agg #[.int .i64 cx, .int .i64 cy]] (.int .i64 s)
  s2 : To 18 #[.agg #[.int .i64 ax, .int .i64 ay], .agg #[.int .i64 bx, .int .i64 by'], .agg #[.int .i64 dx, .int .i64 dy]] (.int .i64 t)
  s3 : To 18 #[.agg #[.int .i64 cx, .int .i64 cy], .agg #[.int .i64 dx, .int .i64 dy], .agg #[.int .i64 ax, .int .i64 ay]] (.int .i64 u)
  s4 : To 18 #[.agg #[.int .i64 cx, .int .i64 cy], .agg #[.int .i64 dx, .int .i64 dy], .agg #[.int .i64 bx, .int .i64 by']] (.int .i64 v)
  same : ax = bx → ay = by' → own = 2
  diff : ¬(ax = bx ∧ ay = by') → own = 3
  p1 : -1 ≤ s * t ∧ s * t ≤ 1
  p2 : -1 ≤ u * v ∧ u * v ≤ 1
  cross : s * t < 0 → u * v < 0 → n = 1
  none : 0 < s * t ∨ 0 < u * v → n = 0
  rest : ¬(s * t < 0 ∧ u * v < 0) → ¬(0 < s * t ∨ 0 < u * v) → n = 0 ∨ n = 2 ∨ (n = 3 ∧ s = 0 ∧ t = 0 ∧ u = 0 ∧ v = 0)

theorem to_meet {ax ay bx by' cx cy dx dy r : Int} (h : meetN (ax, ay) (bx, by') (cx, cy) (dx, dy) = r) (h1 : Cd ax) (h2 : Cd ay) (h3 : Cd bx) (h4 : Cd by') (h5 : Cd cx) (h6 : Cd cy) (h7 : Cd dx) (h8 : Cd dy) :
    To 24 #[.agg #[.int .i64 ax, .int .i64 ay], .agg #[.int .i64 bx, .int .i64 by'], .agg #[.int .i64 cx, .int .i64 cy], .agg #[.int .i64 dx, .int .i64 dy]] (.tuple #[.int .i64 r, .int .i64 0]) := by
  subst h
  exact fun W => meet_ok _ _ _ _ _ _ _ _ W (okB4 h1 h2 h3 h4 h5 h6 h7 h8)

theorem xs (ax ay bx by' cx cy dx dy : Int) (h_ax : Cd ax) (h_ay : Cd ay) (h_bx : Cd bx) (h_by : Cd by') (h_cx : Cd cx) (h_cy : Cd cy) (h_dx : Cd dx) (h_dy : Cd dy) :
    Xs ax ay bx by' cx cy dx dy (meetN (ax, ay) (bx, by') (cx, cy) (dx, dy)) (meetN (ax, ay) (bx, by') (bx, by') (ax, ay)) (sgn (D (ax, ay) (bx, by') (cx, cy))) (sgn (D (ax, ay) (bx, by') (dx, dy))) (sgn (D (cx, cy) (dx, dy) (ax, ay))) (sgn (D (cx, cy) (dx, dy) (bx, by'))) where
  m1 := to_meet rfl h_ax h_ay h_bx h_by h_cx h_cy h_dx h_dy
  m2 := to_meet (meetN_comm _ _ _ _) h_cx h_cy h_dx h_dy h_ax h_ay h_bx h_by
  m3 := to_meet (meetN_swap _ _ _ _) h_bx h_by h_ax h_ay h_dx h_dy h_cx h_cy
  m4 := to_meet rfl h_ax h_ay h_bx h_by h_bx h_by h_ax h_ay
  m5 := to_meet (meetN_end _ _) h_ax h_ay h_bx h_by h_bx h_by h_bx h_by
  s1 := to_side rfl h_ax h_ay h_bx h_by h_cx h_cy
  s2 := to_side rfl h_ax h_ay h_bx h_by h_dx h_dy
  s3 := to_side rfl h_cx h_cy h_dx h_dy h_ax h_ay
  s4 := to_side rfl h_cx h_cy h_dx h_dy h_bx h_by
  same := by rintro rfl rfl; exact meetN_own_same _
  diff := fun h => meetN_own_diff ⟨h_ax, h_ay⟩ ⟨h_bx, h_by⟩ (fun e => h ⟨congrArg Prod.fst e, congrArg Prod.snd e⟩)
  p1 := sgn_prod _ _
  p2 := sgn_prod _ _
  cross := fun h1 h2 => (meetV _ _ _ _).cross (by rintro ⟨e, _⟩; rw [e] at h1; omega) ⟨h1, h2⟩
  none := fun h => (meetV _ _ _ _).none (by rintro ⟨e1, _, e3, _⟩; rw [e1, e3] at h; omega) h
  rest := by
    intro h1 h2
    have hv := meetV (ax, ay) (bx, by') (cx, cy) (dx, dy)
    by_cases z : sgn (D (ax, ay) (bx, by') (cx, cy)) = 0 ∧ sgn (D (ax, ay) (bx, by') (dx, dy)) = 0 ∧ sgn (D (cx, cy) (dx, dy) (ax, ay)) = 0 ∧ sgn (D (cx, cy) (dx, dy) (bx, by')) = 0
    · rw [hv.line z]
      rcases lineN_vals (ax, ay) (bx, by') (cx, cy) (dx, dy) with h | h | h
      · exact Or.inl h
      · exact Or.inr (Or.inl h)
      · exact Or.inr (Or.inr ⟨h, z⟩)
    · exact Or.inr (Or.inl (hv.touch z h2 h1))

/-- 'fits' over four points. -/
theorem fits4 (ax ay bx by' cx cy dx dy : Int) (W : World) (g : Nat) (hg : g = W.heap.size) (hin : In64 [(ax, ay), (bx, by'), (cx, cy), (dx, dy)]) :
    Calls Try.prog 17 #[.slice (some ⟨g, 0, none⟩) 4 4] (W.alloc (.cells #[.int .i64 ax, .int .i64 ay, .int .i64 bx, .int .i64 by', .int .i64 cx, .int .i64 cy, .int .i64 dx, .int .i64 dy] 23)) fun e w' =>
      ∃ (gg cap : Nat) (a0 a1 b0 b1 c0 c1 d0 d1 : Int), e = .returned (.slice (some ⟨gg, 0, none⟩) 4 cap) ∧ Hid (New W w') ∧ Hid ((Cd a0 ∧ Cd a1 ∧ Cd b0 ∧ Cd b1 ∧ Cd c0 ∧ Cd c1 ∧ Cd d0 ∧ Cd d1) ∧ gg < w'.heap.size ∧ 4 ≤ cap ∧ cap ≤ maxLen ∧
        PtsAt w' gg 0 [(a0, a1), (b0, b1), (c0, c1), (d0, d1)]) := by
  subst hg
  have hp : PtsAt (W.alloc (.cells #[.int .i64 ax, .int .i64 ay, .int .i64 bx, .int .i64 by', .int .i64 cx, .int .i64 cy, .int .i64 dx, .int .i64 dy] 23)) W.heap.size 0 [(ax, ay), (bx, by'), (cx, cy), (dx, dy)] := by
    intro i hi
    rw [cell_of_row _ _ _ _ 23 (0, 0) (_root_.Go.heap_alloc_new W _), cell_of_row _ _ _ _ 23 (0, 0) (_root_.Go.heap_alloc_new W _)]
    match i, hi with
    | 0, _ => exact ⟨rfl, rfl⟩
    | 1, _ => exact ⟨rfl, rfl⟩
    | 2, _ => exact ⟨rfl, rfl⟩
    | 3, _ => exact ⟨rfl, rfl⟩
  refine (fits_some W.heap.size 0 4 [(ax, ay), (bx, by'), (cx, cy), (dx, dy)] _ hp (by simp) (by simp) (by omega) hin).mono ?_
  rintro e w' ⟨v, out, rfl, H⟩
  obtain ⟨hn, hok, hl, hown⟩ := H.out
  match out, hl with
  | [(a0, a1), (b0, b1), (c0, c1), (d0, d1)], _ =>
    have m (p : Int × Int) (h : p ∈ [(a0, a1), (b0, b1), (c0, c1), (d0, d1)]) := okB_cd hok h
    rcases hown.2 with ⟨_, h0⟩ | ⟨gg, cap, cur, rfl, _, h2, h3, h4, h5, h6⟩
    · simp at h0
    · refine ⟨gg, cap, a0, a1, b0, b1, c0, c1, d0, d1, rfl, (New.alloc W _).trans' hn, ⟨(m (a0, a1) (by simp)).1, (m (a0, a1) (by simp)).2, (m (b0, b1) (by simp)).1, (m (b0, b1) (by simp)).2, (m (c0, c1) (by simp)).1, (m (c0, c1) (by simp)).2, (m (d0, d1) (by simp)).1, (m (d0, d1) (by simp)).2⟩, (Array.getElem?_eq_some_iff.1 h2).1, by simpa using h3, h4, ?_⟩
      have hcell : ∀ (j : Nat) (u : Value), j < 8 → (flatP [(a0, a1), (b0, b1), (c0, c1), (d0, d1)])[j]? = some u → w'.cell? ⟨gg, j, none⟩ = some u := by
        intro j u hj hu
        rw [cell_of_row w' gg j cur 23 (0, 0) h2]
        rw [← h6] at hu
        rw [List.getElem?_take_of_lt (by simpa using hj)] at hu
        simpa using hu
      intro i hi
      match i, hi with
      | 0, _ => exact ⟨hcell 0 _ (by omega) rfl, hcell 1 _ (by omega) rfl⟩
      | 1, _ => exact ⟨hcell 2 _ (by omega) rfl, hcell 3 _ (by omega) rfl⟩
      | 2, _ => exact ⟨hcell 4 _ (by omega) rfl, hcell 5 _ (by omega) rfl⟩
      | 3, _ => exact ⟨hcell 6 _ (by omega) rfl, hcell 7 _ (by omega) rfl⟩

end Go.Proofs.Ytgeoffpcmkofkaa
