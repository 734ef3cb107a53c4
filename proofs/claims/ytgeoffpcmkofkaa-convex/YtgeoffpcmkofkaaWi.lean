/- Expansions as numbers; the walks of package side: 'exactApart', 'exactSide', 'Of'. -/
import Derived.Test.YtgeoffpcmkofkaaWh
namespace Go.Proofs.Ytgeoffpcmkofkaa
open Go.RowKit Fl
set_option maxRecDepth 100000

/-- At the head of block g lies the number v, in at most n parts, whose mass is at most 2 ^ m. -/
structure Nm (w : World) (g cap : Nat) (ws : Ws) (v : Int) (m n : Nat) : Prop where
  lst : Lst w g cap ws
  tot : total (vals ws) = v
  mass : mass (vals ws) ≤ 2 ^ m
  len : ws.length ≤ n

theorem Nm.kept {w w' : World} {g cap : Nat} {ws : Ws} {v : Int} {m n : Nat} (h : Nm w g cap ws v m n) (hn : New w w') : Nm w' g cap ws v m n :=
  ⟨h.lst.kept hn (by simp), h.tot, h.mass, h.len⟩

theorem times_nm {w : World} {g1 c1 g2 c2 : Nat} {e f : Ws} {u v : Int} {a b n m : Nat} (h1 : Nm w g1 c1 e u a n) (h2 : Nm w g2 c2 f v b m) (hnm : n * m ≤ 1024) (h40 : 40 ≤ a + b) (h800 : a + b ≤ 800) :
    Calls Try.prog 76 #[.slice (some ⟨g1, 0, none⟩) e.length c1, .slice (some ⟨g2, 0, none⟩) f.length c2] w fun e' w' =>
      ∃ (g3 cap : Nat) (out : Ws), e' = .returned (.slice (some ⟨g3, 0, none⟩) out.length cap) ∧ Hid (Nm w' g3 cap out (u * v) (a + b + 1) (2 * (n * m)) ∧ w.heap.size ≤ g3 ∧ New w w') := by
  obtain ⟨K, hK⟩ : ∃ K, a + b = 40 + K := ⟨a + b - 40, by omega⟩
  have hc : e.length * f.length ≤ n * m := Nat.mul_le_mul h1.len h2.len
  have hp := p2_pos K
  have hab : Fl.mass (vals e) * Fl.mass (vals f) ≤ 1099511627776 * 2 ^ K := by
    have : (2 : Int) ^ (a + b) = 1099511627776 * 2 ^ K := by rw [hK, p2_add]; rfl
    rw [← this, p2_add]
    exact Int.mul_le_mul h1.mass h2.mass (mass_nonneg _) (by have := p2_pos a; omega)
  have hC : ((e.length * f.length : Nat) : Int) * (4 * (e.length * f.length : Nat) + 1) * 2 ^ K ≤ 8388608 * 2 ^ K := by
    refine Int.mul_le_mul_of_nonneg_right ?_ (by omega)
    have : ((e.length * f.length : Nat) : Int) * (4 * (e.length * f.length : Nat) + 1) ≤ 1024 * 4097 := Int.mul_le_mul (by omega) (by omega) (by omega) (by omega)
    omega
  have e52 : (2 : Int) ^ 52 = 4503599627370496 := by decide
  have hpre : MulPre e f K := ⟨h1.lst.words, h2.lst.words, h1.lst.ex, h2.lst.ex, by omega, by omega, by rw [e52]; omega⟩
  refine (times_any g1 c1 g2 c2 e f K w h1.lst h2.lst hpre).mono ?_
  rintro e' w' ⟨g3, cap, out, rfl, H⟩
  refine ⟨g3, cap, out, rfl, ⟨H.out.1, ?_, ?_, ?_⟩, H.out.2.1, H.out.2.2.1⟩
  · have := H.out.2.2.2.tot
    rw [List.take_length, Int.zero_mul, Int.add_zero, h1.tot, h2.tot] at this
    exact this
  · have := H.out.2.2.2.bound
    rw [List.take_length] at this
    simp only [List.take_zero, vals, List.map_nil, Fl.mass, Int.natAbs_zero, Nat.add_zero] at this hab ⊢
    have e1 : (2 : Int) ^ (a + b + 1) = 2199023255552 * 2 ^ K := by rw [p2_succ, hK, p2_add]; grind
    rw [e1]
    omega
  · have := H.out.2.2.2.len
    omega

theorem addinv_nm {σ : Int} {w' : World} {g3 cap : Nat} {e f out : Ws} {K a : Nat} (hl : Lst w' g3 cap out) (ha : AddInv σ e f K f.length out) {u v : Int} {n m : Nat} (hu : total (vals e) = u) (hv : total (vals f) = v) (hme : mass (vals e) ≤ 2 ^ a) (hmf : mass (vals f) ≤ 2 ^ a)
    (hn : e.length ≤ n) (hm : f.length ≤ m) (hnm : n + m ≤ 4096) (hK : a = 30 + K) : Nm w' g3 cap out (u + σ * v) (a + 2) (n + m) := by
  refine ⟨hl, ?_, ?_, ?_⟩
  · rw [ha.tot, List.take_length, hu, hv]
  · have hb := ha.bound
    rw [List.drop_length] at hb
    simp only [vals, List.map_nil, Fl.mass] at hb hme hmf ⊢
    have hp := p2_pos K
    have e1 : (2 : Int) ^ a = 1073741824 * 2 ^ K := by rw [hK, p2_add]; rfl
    have e2 : (2 : Int) ^ (a + 2) = 4294967296 * 2 ^ K := by rw [p2_succ, p2_succ, e1]; grind
    have h3 : (f.length : Int) * (e.length + f.length) * 2 ^ K ≤ 16777216 * 2 ^ K := by
      refine Int.mul_le_mul_of_nonneg_right ?_ (by omega)
      have : (f.length : Int) * (e.length + f.length) ≤ 4096 * 4096 := Int.mul_le_mul (by omega) (by omega) (by omega) (by omega)
      omega
    rw [e1] at hme hmf
    rw [e2]
    omega
  · have := ha.len
    omega

theorem add_fits {e f : Ws} {K a n m : Nat} (hme : mass (vals e) ≤ 2 ^ a) (hmf : mass (vals f) ≤ 2 ^ a) (hn : e.length ≤ n) (hm : f.length ≤ m) (hnm : n + m ≤ 4096) (hK : a = 30 + K) :
    mass (vals e) + mass (vals f) + f.length * (e.length + f.length) * 2 ^ K ≤ 2 ^ 52 * 2 ^ K := by
  have hp := p2_pos K
  have e1 : (2 : Int) ^ a = 1073741824 * 2 ^ K := by rw [hK, p2_add]; rfl
  have e52 : (2 : Int) ^ 52 = 4503599627370496 := by decide
  have h3 : (f.length : Int) * (e.length + f.length) * 2 ^ K ≤ 16777216 * 2 ^ K := by
    refine Int.mul_le_mul_of_nonneg_right ?_ (by omega)
    have : (f.length : Int) * (e.length + f.length) ≤ 4096 * 4096 := Int.mul_le_mul (by omega) (by omega) (by omega) (by omega)
    omega
  rw [e1] at hme hmf
  rw [e52]
  omega

theorem plus_nm {w : World} {g1 c1 g2 c2 : Nat} {e f : Ws} {u v : Int} {a n m : Nat} (h1 : Nm w g1 c1 e u a n) (h2 : Nm w g2 c2 f v a m) (hnm : n + m ≤ 4096) (h30 : 30 ≤ a) (h800 : a ≤ 800) :
    Calls Try.prog 83 #[.slice (some ⟨g1, 0, none⟩) e.length c1, .slice (some ⟨g2, 0, none⟩) f.length c2] w fun e' w' =>
      ∃ (g3 cap : Nat) (out : Ws), e' = .returned (.slice (some ⟨g3, 0, none⟩) out.length cap) ∧ Hid (Nm w' g3 cap out (u + v) (a + 2) (n + m) ∧ w.heap.size ≤ g3 ∧ New w w') := by
  obtain ⟨K, hK⟩ : ∃ K, a = 30 + K := ⟨a - 30, by omega⟩
  have hn := h1.len
  have hm := h2.len
  refine (plus_any g1 c1 g2 c2 e f K w h1.lst h2.lst (by omega) (by omega) (add_fits h1.mass h2.mass h1.len h2.len hnm hK)).mono ?_
  rintro e' w' ⟨g3, out, rfl, H⟩
  refine ⟨g3, _, out, rfl, ?_, H.out.2.1, H.out.2.2.1⟩
  have := addinv_nm H.out.1 H.out.2.2.2 h1.tot h2.tot h1.mass h2.mass h1.len h2.len hnm hK
  rwa [Int.one_mul] at this

theorem minus_nm {w : World} {g1 c1 g2 c2 : Nat} {e f : Ws} {u v : Int} {a n m : Nat} (h1 : Nm w g1 c1 e u a n) (h2 : Nm w g2 c2 f v a m) (hnm : n + m ≤ 4096) (h30 : 30 ≤ a) (h800 : a ≤ 800) :
    Calls Try.prog 77 #[.slice (some ⟨g1, 0, none⟩) e.length c1, .slice (some ⟨g2, 0, none⟩) f.length c2] w fun e' w' =>
      ∃ (g3 cap : Nat) (out : Ws), e' = .returned (.slice (some ⟨g3, 0, none⟩) out.length cap) ∧ Hid (Nm w' g3 cap out (u - v) (a + 2) (n + m) ∧ w.heap.size ≤ g3 ∧ New w w') := by
  obtain ⟨K, hK⟩ : ∃ K, a = 30 + K := ⟨a - 30, by omega⟩
  have hn := h1.len
  have hm := h2.len
  refine (minus_any g1 c1 g2 c2 e f K w h1.lst h2.lst (by omega) (by omega) (add_fits h1.mass h2.mass h1.len h2.len hnm hK)).mono ?_
  rintro e' w' ⟨g3, out, rfl, H⟩
  refine ⟨g3, _, out, rfl, ?_, H.out.2.1, H.out.2.2.1⟩
  have := addinv_nm H.out.1 H.out.2.2.2 h1.tot h2.tot h1.mass h2.mass h1.len h2.len hnm hK
  have e1 : u + -1 * v = u - v := by omega
  rwa [e1] at this

theorem difference_nm (a b : Nat × Int) (w : World) (ha : Co a) (hb : Co b) :
    Calls Try.prog 94 #[.float .f64 a.1, .float .f64 b.1] w fun e w' =>
      ∃ (g : Nat) (out : Ws), e = .returned (.slice (some ⟨g, 0, none⟩) out.length 2) ∧ Hid (Nm w' g 2 out (a.2 - b.2) 55 2 ∧ w.heap.size ≤ g ∧ New w w') := by
  refine (difference_any a b w ha hb).mono ?_
  rintro e' w' ⟨g, out, rfl, H⟩
  exact ⟨g, out, rfl, ⟨H.out.1, H.out.2.2.2.1, H.out.2.2.2.2, H.out.1.le⟩, H.out.2.1, H.out.2.2.1⟩

set_option maxHeartbeats 400000 in
theorem exactApart_any (px py fx fy : Int) (w : World) (h1 : Cd px) (h2 : Cd py) (h3 : Cd fx) (h4 : Cd fy) :
    Calls Try.prog 75 #[.agg #[.int .i64 px, .int .i64 py], .agg #[.int .i64 fx, .int .i64 fy]] w fun e w' =>
      ∃ (g1 g2 : Nat) (X Y : Ws), e = .returned (.tuple #[.slice (some ⟨g1, 0, none⟩) X.length 2, .slice (some ⟨g2, 0, none⟩) Y.length 2]) ∧ Hid (Nm w' g1 2 X (px - fx) 55 2 ∧ Nm w' g2 2 Y (py - fy) 55 2 ∧ w.heap.size ≤ g1 ∧ w.heap.size ≤ g2 ∧ New w w') := by
  go_enter Try.func75, Try.ntmps75
  go_wp2_with fail
  refine (difference_nm (floatOfInt .f64 px, px) (floatOfInt .f64 fx, fx) _ h1.co h3.co).mono ?_
  rintro e w1 ⟨g1, X, rfl, H1⟩
  have r1 := H1.out.2.2.rule
  go_wp2_with fail
  refine (difference_nm (floatOfInt .f64 py, py) (floatOfInt .f64 fy, fy) _ h2.co h4.co).mono ?_
  rintro e w2 ⟨g2, Y, rfl, H2⟩
  have HN : Hid (New w w1 ∧ w.heap.size ≤ g1) := ⟨((New.alloc _ _).alloc' _).trans' H1.out.2.2, by have := H1.out.2.1; simp at this; omega⟩
  clear r1
  go_wp2_with fail
  go_ret2
  exact ⟨g1, g2, X, Y, rfl, H1.out.1.kept H2.out.2.2, H2.out.1, HN.out.2, Nat.le_trans HN.out.1.size H2.out.2.1, HN.out.1.trans' H2.out.2.2⟩

set_option maxHeartbeats 800000 in
theorem exactSide_any (ax ay bx by' cx cy : Int) (w : World) (h1 : Cd ax) (h2 : Cd ay) (h3 : Cd bx) (h4 : Cd by') (h5 : Cd cx) (h6 : Cd cy) :
    Calls Try.prog 57 #[.agg #[.int .i64 ax, .int .i64 ay], .agg #[.int .i64 bx, .int .i64 by'], .agg #[.int .i64 cx, .int .i64 cy]] w fun e w' =>
      e = .returned (.int .i64 (sgn (det ax ay bx by' cx cy))) ∧ Hid (New w w') := by
  go_enter Try.func57, Try.ntmps57
  go_wp2_with fail
  refine (exactApart_any bx by' ax ay _ h3 h4 h1 h2).mono ?_
  rintro e w1 ⟨g1, g2, X1, Y1, rfl, H1⟩
  have r1 := H1.out.2.2.2.2.rule
  go_wp2_with fail
  refine (exactApart_any cx cy ax ay _ h5 h6 h1 h2).mono ?_
  rintro e w2 ⟨g3, g4, X2, Y2, rfl, H2⟩
  have HN : Hid (New w w2) := ((((New.alloc _ _).alloc' _).alloc' _).trans' H1.out.2.2.2.2).trans' H2.out.2.2.2.2
  clear r1
  go_wp2_with fail
  refine (times_nm (H1.out.1.kept H2.out.2.2.2.2) H2.out.2.1 (by omega) (by omega) (by omega)).mono ?_
  rintro e w3 ⟨g5, c5, P, rfl, H3⟩
  go_wp2_with fail
  refine (times_nm ((H1.out.2.1.kept H2.out.2.2.2.2).kept H3.out.2.2) (H2.out.1.kept H3.out.2.2) (by omega) (by omega) (by omega)).mono ?_
  rintro e w4 ⟨g6, c6, Q, rfl, H4⟩
  go_wp2_with fail
  refine (minus_nm (H3.out.1.kept H4.out.2.2) H4.out.1 (by omega) (by omega) (by omega)).mono ?_
  rintro e w5 ⟨g7, c7, R, rfl, H5⟩
  go_wp2_with fail
  refine (sign_any g7 c7 R _ H5.out.1.lst).mono ?_
  rintro e w6 ⟨rfl, rfl⟩
  go_wp2_with fail
  go_ret
  exact ⟨by rw [H5.out.1.tot]; rfl, ((HN.out.trans' H3.out.2.2).trans' H4.out.2.2).trans' H5.out.2.2⟩

set_option maxHeartbeats 400000 in
theorem of_any (ax ay bx by' cx cy : Int) (w : World) (h1 : Cd ax) (h2 : Cd ay) (h3 : Cd bx) (h4 : Cd by') (h5 : Cd cx) (h6 : Cd cy) :
    Calls Try.prog 37 #[.agg #[.int .i64 ax, .int .i64 ay], .agg #[.int .i64 bx, .int .i64 by'], .agg #[.int .i64 cx, .int .i64 cy]] w fun e w' =>
      e = .returned (.int .i64 (sgn (det ax ay bx by' cx cy))) ∧ Hid (New w w') := by
  go_enter Try.func37, Try.ntmps37
  go_wp2_with fail
  refine (roughSide_any ax ay bx by' cx cy _ h1 h2 h3 h4 h5 h6).mono ?_
  rintro e w1 ⟨sg, b, rfl, H1⟩
  have r1 := H1.out.1.rule
  have HN : Hid (New w w1) := (((New.alloc _ _).alloc' _).alloc' _).trans' H1.out.1
  cases b with
  | true =>
    have hs := H1.out.2 rfl
    subst hs
    go_wp2_with fail
    go_ret
    exact ⟨rfl, HN.out⟩
  | false =>
    go_wp2_with fail
    refine (exactSide_any ax ay bx by' cx cy _ h1 h2 h3 h4 h5 h6).mono ?_
    rintro e w2 ⟨rfl, H2⟩
    clear r1
    go_wp2_with fail
    go_ret
    exact ⟨rfl, HN.out.trans' H2.out⟩

end Go.Proofs.Ytgeoffpcmkofkaa
