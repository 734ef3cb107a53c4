/- Wg; Wh; Wi; Wt; Wu; Wv: texts laid into one. -/
import Derived.Test.YtgeoffpcmkofkaaQab
import Derived.Deep.QuietTactic
import Derived.BigQuiet
import Derived.Deep.RegionHeld3
/- The walks of package side: 'roughApart', 'signBeyond', 'roughSide'. -/
namespace Go.Proofs.Ytgeoffpcmkofkaa
open Go.RowKit Fl
set_option maxRecDepth 100000

theorem New.refl (w : World) : New w w := World.grownBy.refl w none
theorem New.alloc (w : World) (o : Obj) : New w (w.alloc o) := World.grownBy_alloc w o none
theorem New.alloc' {w w1 : World} (h : New w w1) (o : Obj) : New w (w1.alloc o) := h.trans' (New.alloc w1 o)
theorem New.drewN {w w1 : World} (h : New w w1) (n : Nat) : New w (w1.drewN n) := ⟨h.os, h.tape, h.output, h.size, h.block⟩

/-- A coordinate. -/
def Cd (n : Int) : Prop := -9007199254740992 ≤ n ∧ n ≤ 9007199254740992

theorem Cd.co {n : Int} (h : Cd n) : Co (floatOfInt .f64 n, n) := by
  have h1 : (n.natAbs : Int) ≤ 9007199254740992 := by have := h.1; have := h.2; omega
  have e : (2 : Int) ^ 53 = 9007199254740992 := by decide
  exact ⟨F.ofInt n (by rw [e]; exact h1), h1⟩

set_option maxHeartbeats 400000 in
theorem roughApart_walk (px py fx fy : Int) (rx ry : Nat) (w : World) (h1 : Ieee.double.sub (floatOfInt .f64 px) (floatOfInt .f64 fx) = some rx) (h2 : Ieee.double.sub (floatOfInt .f64 py) (floatOfInt .f64 fy) = some ry) :
    Calls Try.prog 72 #[.agg #[.int .i64 px, .int .i64 py], .agg #[.int .i64 fx, .int .i64 fy]] w fun e w' => e = .returned (.tuple #[.float .f64 rx, .float .f64 ry]) ∧ New w w' := by
  have g1 := fsub h1 81
  have g2 := fsub h2 81
  clear h1 h2
  go_enter Try.func72, Try.ntmps72
  go_wp2
  go_quiet (fail)
  go_wp2
  go_ret2
  exact ⟨rfl, by
    refine New.drewN ?_ _
    exact (New.alloc _ _).alloc' _⟩

/-- A difference, rounded. -/
structure Df (X : Int) (r : Nat × Int) : Prop where
  word : F r.1 r.2 0
  rnd : Rnd X r.2
  small : (r.2.natAbs : Int) ≤ 36028797018963968

theorem df_of {p f : Int} (hp : Cd p) (hf : Cd f) : ∃ r : Nat × Int, Ieee.double.sub (floatOfInt .f64 p) (floatOfInt .f64 f) = some r.1 ∧ Df (p - f) r := by
  have h0 : (36028797018963968 : Int) < Big := Int.lt_trans (show (36028797018963968 : Int) < 2 ^ 56 by decide) (p2_lt_Big (by omega))
  have hs : ((p - f).natAbs : Int) ≤ 18014398509481984 := by have := hp.1; have := hp.2; have := hf.1; have := hf.2; omega
  obtain ⟨r, z, e1, q1, f1⟩ := hp.co.word.sub hf.co.word (by omega) (by simp only; omega)
  exact ⟨(r, z), e1, f1, q1, by have := q1.bd hs; simp only; omega⟩

theorem roughApart_any (px py fx fy : Int) (w : World) (h1 : Cd px) (h2 : Cd py) (h3 : Cd fx) (h4 : Cd fy) :
    Calls Try.prog 72 #[.agg #[.int .i64 px, .int .i64 py], .agg #[.int .i64 fx, .int .i64 fy]] w fun e w' => ∃ rx ry : Nat × Int, e = .returned (.tuple #[.float .f64 rx.1, .float .f64 ry.1]) ∧ Hid (New w w' ∧ Df (px - fx) rx ∧ Df (py - fy) ry) := by
  obtain ⟨rx, e1, d1⟩ := df_of h1 h3
  obtain ⟨ry, e2, d2⟩ := df_of h2 h4
  refine (roughApart_walk px py fx fy rx.1 ry.1 w e1 e2).mono ?_
  rintro e w' ⟨rfl, hn⟩
  exact ⟨rx, ry, rfl, hn, d1, d2⟩

theorem order_of {a b : Nat} {x y : Int} {k : Nat} (ha : F a x k) (hb : F b y k) : FloatKind.f64.format.order a b = some (compare x y) := ha.order hb

set_option maxHeartbeats 400000 in
theorem signBeyond_any (v s : Nat) (x S : Int) (c : Nat) (w : World) (hv : F v x 0) (hs : F s S c) :
    Calls Try.prog 73 #[.float .f64 v, .float .f64 s] w fun e w' => ∃ (sg : Int) (b : Bool), e = .returned (.tuple #[.int .i64 sg, .bool b]) ∧ w = w' ∧ Hid (b = true → (sg = 1 ∧ S < x * 2 ^ c) ∨ (sg = -1 ∧ x * 2 ^ c < -S)) := by
  have hx : F v (x * 2 ^ c) c := by have := hv.scale c; rwa [Nat.zero_add] at this
  have o1 := order_of hx hs
  have o2 := order_of hx hs.neg
  have hng := fneg
  clear hv hs hx
  by_cases h1 : S < x * 2 ^ c
  · have t1 : (FloatKind.f64.format.order v s == some .gt) = true := by rw [o1, Int.compare_eq_gt.2 h1]; rfl
    clear o1 o2
    have H1 : Hid (S < x * 2 ^ c) := h1
    clear h1
    go_enter Try.func73, Try.ntmps73
    go_wp2
    go_ret2
    exact ⟨1, true, rfl, rfl, fun _ => Or.inl ⟨rfl, H1.out⟩⟩
  · have t1 : (FloatKind.f64.format.order v s == some .gt) = false := by
      rw [o1]
      have : compare (x * 2 ^ c) S ≠ .gt := fun h => h1 (Int.compare_eq_gt.1 h)
      cases h : compare (x * 2 ^ c) S <;> simp_all
    by_cases h2 : x * 2 ^ c < -S
    · have t2 : (FloatKind.f64.format.order v (ng s) == some .lt) = true := by rw [o2, Int.compare_eq_lt.2 h2]; rfl
      have H2 : Hid (x * 2 ^ c < -S) := h2
      clear o1 o2 h1 h2
      go_enter Try.func73, Try.ntmps73
      go_wp2
      go_ret2
      exact ⟨-1, true, rfl, rfl, fun _ => Or.inr ⟨rfl, H2.out⟩⟩
    · have t2 : (FloatKind.f64.format.order v (ng s) == some .lt) = false := by
        rw [o2]
        have : compare (x * 2 ^ c) (-S) ≠ .lt := fun h => h2 (Int.compare_eq_lt.1 h)
        cases h : compare (x * 2 ^ c) (-S) <;> simp_all
      clear o1 o2 h1 h2
      go_enter Try.func73, Try.ntmps73
      go_wp2
      go_ret2
      exact ⟨0, false, rfl, rfl, fun h => absurd h (by simp)⟩

end Go.Proofs.Ytgeoffpcmkofkaa
/- The walks of package side: 'roughSide', 'exactSide', 'Of'. -/
namespace Go.Proofs.Ytgeoffpcmkofkaa
open Go.RowKit Fl
set_option maxRecDepth 100000

theorem New.rule {W w1 : World} (h : New W w1) : ∀ b o, b < W.heap.size → w1.cell? ⟨b, o, none⟩ = W.cell? ⟨b, o, none⟩ :=
  fun b o hb => World.cell?_of_block (a := ⟨b, o, none⟩) (h.block b hb (by simp))

/-- The number whose sign is the side. -/
def det (ax ay bx by' cx cy : Int) : Int := (bx - ax) * (cy - ay) - (by' - ay) * (cx - ax)

theorem slack50 : F 4382002437431492608 1 50 := by
  refine ⟨by decide, ?_⟩
  have e : Ieee.double.read 4382002437431492608 = .number false 4503599627370496 (-102) := by decide
  rw [e]
  exact Is.mk (u := 0) (v := 52) (by decide) (by decide)

theorem slack49 : F 4386506037058863104 1 49 := by
  refine ⟨by decide, ?_⟩
  have e : Ieee.double.read 4386506037058863104 = .number false 4503599627370496 (-101) := by decide
  rw [e]
  exact Is.mk (u := 0) (v := 52) (by decide) (by decide)

theorem small_Big {x : Int} {k : Nat} (h : (x.natAbs : Int) ≤ 2 ^ k) (hk : k < 900) : (x.natAbs : Int) < Big := Int.lt_of_le_of_lt h (p2_lt_Big hk)

theorem mul_le_p2 {x y : Int} {j k : Nat} (hx : (x.natAbs : Int) ≤ 2 ^ j) (hy : (y.natAbs : Int) ≤ 2 ^ k) : ((x * y).natAbs : Int) ≤ 2 ^ (j + k) := by
  rw [Int.natAbs_mul, Int.natCast_mul, p2_add]
  exact Int.mul_le_mul hx hy (by omega) (by have := p2_pos j; omega)

theorem Df.p2 {X : Int} {r : Nat × Int} (h : Df X r) : (r.2.natAbs : Int) ≤ 2 ^ 55 := by
  have e : (2 : Int) ^ 55 = 36028797018963968 := by decide
  rw [e]; exact h.small

theorem rnd_p2 {x z : Int} {k : Nat} (h : Rnd x z) (hx : (x.natAbs : Int) ≤ 2 ^ k) : (z.natAbs : Int) ≤ 2 ^ k := by
  have h1 := h.le (Rep.p2 k) (by omega)
  have h2 := h.ge (Rep.p2 k).neg (by omega)
  omega

theorem add_le_p2 {x y : Int} {k : Nat} (hx : (x.natAbs : Int) ≤ 2 ^ k) (hy : (y.natAbs : Int) ≤ 2 ^ k) : ((x + y).natAbs : Int) ≤ 2 ^ (k + 1) := by
  rw [p2_succ]; omega
theorem sub_le_p2 {x y : Int} {k : Nat} (hx : (x.natAbs : Int) ≤ 2 ^ k) (hy : (y.natAbs : Int) ≤ 2 ^ k) : ((x - y).natAbs : Int) ≤ 2 ^ (k + 1) := by
  rw [p2_succ]; omega

/-- All words of 'roughSide', and that its answer is right where it is sure. -/
theorem roughSide_words {A B C D : Int} {bx by' cx cy : Nat × Int} (h1 : Df A bx) (h2 : Df B by') (h3 : Df C cx) (h4 : Df D cy) :
    ∃ (l r d t s : Nat) (zd S : Int), Ieee.double.mul bx.1 cy.1 = some l ∧ Ieee.double.mul by'.1 cx.1 = some r ∧ Ieee.double.sub l r = some d ∧ Ieee.double.add (ab l) (ab r) = some t ∧ Ieee.double.mul 4382002437431492608 t = some s ∧
      l < 2 ^ 64 ∧ r < 2 ^ 64 ∧ F d zd 0 ∧ F s S 50 ∧ (S < zd * 2 ^ 50 → 0 < A * D - B * C) ∧ (zd * 2 ^ 50 < -S → A * D - B * C < 0) := by
  have b1 := mul_le_p2 h1.p2 h4.p2
  have b2 := mul_le_p2 h2.p2 h3.p2
  obtain ⟨l, zl, e1, q1, f1⟩ := h1.word.mul h4.word (by omega) (small_Big b1 (by omega))
  obtain ⟨r, zr, e2, q2, f2⟩ := h2.word.mul h3.word (by omega) (small_Big b2 (by omega))
  have c1 := rnd_p2 q1 b1
  have c2 := rnd_p2 q2 b2
  have b3 := sub_le_p2 c1 c2
  obtain ⟨d, zd, e3, q3, f3⟩ := f1.sub f2 (by omega) (small_Big b3 (by omega))
  have b4 : (((zl.natAbs : Int) + (zr.natAbs : Int)).natAbs : Int) ≤ 2 ^ (55 + 55 + 1) := add_le_p2 (by simpa using c1) (by simpa using c2)
  obtain ⟨t, zt, e4, q4, f4⟩ := f1.abs.add f2.abs (by omega) (small_Big b4 (by omega))
  have c4 := rnd_p2 q4 b4
  obtain ⟨s, zs, e5, q5, f5⟩ := slack50.mul f4 (by omega) (by rw [Int.one_mul]; exact small_Big c4 (by omega))
  rw [Int.one_mul] at q5
  have hzs := q5.exact q4.rep
  subst hzs
  have E1 : E (A * D) zl zl.natAbs 391 := (((E.rnd h1.rnd).mul (E.rnd h4.rnd) (by omega) (by omega) (by omega) (by omega)).round q1 (by rw [Int.natAbs_mul, Int.natCast_mul]) (by omega) (by omega)).mono (by omega)
  have E2 : E (B * C) zr zr.natAbs 391 := (((E.rnd h2.rnd).mul (E.rnd h3.rnd) (by omega) (by omega) (by omega) (by omega)).round q2 (by rw [Int.natAbs_mul, Int.natCast_mul]) (by omega) (by omega)).mono (by omega)
  have E3 := (E1.sub E2).roundS q3 (by omega) (by omega)
  have G1 := G.rnd q4 (by omega)
  have e50 : (2 : Int) ^ 50 = 1125899906842624 := by decide
  have hs := sign_sure (m := 2 ^ 50) E3 G1 (by omega) (by omega) e50
  exact ⟨l, r, d, t, s, zd, zs, e1, e2, e3, e4, e5, f1.1, f2.1, f3, f5, hs.1, hs.2⟩

set_option maxHeartbeats 800000 in
theorem roughSide_any (ax ay bx by' cx cy : Int) (w : World) (h1 : Cd ax) (h2 : Cd ay) (h3 : Cd bx) (h4 : Cd by') (h5 : Cd cx) (h6 : Cd cy) :
    Calls Try.prog 56 #[.agg #[.int .i64 ax, .int .i64 ay], .agg #[.int .i64 bx, .int .i64 by'], .agg #[.int .i64 cx, .int .i64 cy]] w fun e w' =>
      ∃ (sg : Int) (b : Bool), e = .returned (.tuple #[.int .i64 sg, .bool b]) ∧ Hid (New w w' ∧ (b = true → sg = sgn (det ax ay bx by' cx cy))) := by
  go_enter Try.func56, Try.ntmps56
  go_wp2_with fail
  refine (roughApart_any bx by' ax ay _ h3 h4 h1 h2).mono ?_
  rintro e w1 ⟨rbx, rby, rfl, H1⟩
  have r1 := H1.out.1.rule
  go_wp2_with fail
  refine (roughApart_any cx cy ax ay _ h5 h6 h1 h2).mono ?_
  rintro e w2 ⟨rcx, rcy, rfl, H2⟩
  obtain ⟨l, r, d, t, s, zd, S, e1, e2, e3, e4, e5, hl, hr, fd, fs, k1, k2⟩ := roughSide_words H1.out.2.1 H1.out.2.2 H2.out.2.1 H2.out.2.2
  have HK : Hid ((S < zd * 2 ^ 50 → 0 < det ax ay bx by' cx cy) ∧ (zd * 2 ^ 50 < -S → det ax ay bx by' cx cy < 0) ∧ New w w2) := ⟨k1, k2, ((((New.alloc _ _).alloc' _).alloc' _).trans' H1.out.1).trans' H2.out.1⟩
  have g1 := fmul e1 81
  have g2 := fmul e2 81
  have g3 := fsub e3 81
  have g4 := fadd e4 81
  have g5 := fmul e5 81
  clear k1 k2 e1 e2 e3 e4 e5 r1 H1 H2
  go_wp2_with fail
  refine (abs_walk l _ hl).mono ?_
  rintro e w3 ⟨rfl, rfl⟩
  go_wp2_with fail
  refine (abs_walk r _ hr).mono ?_
  rintro e w4 ⟨rfl, rfl⟩
  go_wp2_with fail
  refine (signBeyond_any d s zd S 50 _ fd fs).mono ?_
  rintro e w5 ⟨sg, b, rfl, rfl, H5⟩
  go_wp2_with fail
  go_ret2
  refine ⟨sg, b, rfl, HK.out.2.2, fun hb => ?_⟩
  rcases H5.out hb with ⟨rfl, h⟩ | ⟨rfl, h⟩
  · have := HK.out.1 h
    unfold sgn; rw [if_neg (by omega), if_neg (by omega)]
  · have := HK.out.2.1 h
    unfold sgn; rw [if_pos this]

end Go.Proofs.Ytgeoffpcmkofkaa
/- Expansions as numbers; the walks of package side: 'exactApart', 'exactSide', 'Of'. -/
namespace Go.Proofs.Ytgeoffpcmkofkaa
open Go.RowKit Fl
set_option maxRecDepth 100000

/-- At the head of block g lies the number v, in at most n parts, whose mass is at most 2 ^ m. -/
structure Nm (w : World) (g cap : Nat) (ws : Ws) (v : Int) (m n : Nat) : Prop where
  lst : Lst w g cap ws
  tot : total (vals ws) = v
  mass : mass (vals ws) ≤ 2 ^ m
  len : ws.length ≤ n

theorem Nm.kept {w w' : World} {g cap : Nat} {ws : Ws} {v : Int} {m n : Nat} (h : Nm w g cap ws v m n) (hn : New w w') : Nm w' g cap ws v m n :=
  ⟨h.lst.kept hn (by simp), h.tot, h.mass, h.len⟩

theorem times_nm {w : World} {g1 c1 g2 c2 : Nat} {e f : Ws} {u v : Int} {a b n m : Nat} (h1 : Nm w g1 c1 e u a n) (h2 : Nm w g2 c2 f v b m) (hnm : n * m ≤ 1024) (h40 : 40 ≤ a + b) (h800 : a + b ≤ 800) :
    Calls Try.prog 76 #[.slice (some ⟨g1, 0, none⟩) e.length c1, .slice (some ⟨g2, 0, none⟩) f.length c2] w fun e' w' =>
      ∃ (g3 cap : Nat) (out : Ws), e' = .returned (.slice (some ⟨g3, 0, none⟩) out.length cap) ∧ Hid (Nm w' g3 cap out (u * v) (a + b + 1) (2 * (n * m)) ∧ w.heap.size ≤ g3 ∧ New w w') := by
  obtain ⟨K, hK⟩ : ∃ K, a + b = 40 + K := ⟨a + b - 40, by omega⟩
  have hc : e.length * f.length ≤ n * m := Nat.mul_le_mul h1.len h2.len
  have hp := p2_pos K
  have hab : Fl.mass (vals e) * Fl.mass (vals f) ≤ 1099511627776 * 2 ^ K := by
    have : (2 : Int) ^ (a + b) = 1099511627776 * 2 ^ K := by rw [hK, p2_add]; rfl
    rw [← this, p2_add]
    exact Int.mul_le_mul h1.mass h2.mass (mass_nonneg _) (by have := p2_pos a; omega)
  have hC : ((e.length * f.length : Nat) : Int) * (4 * (e.length * f.length : Nat) + 1) * 2 ^ K ≤ 8388608 * 2 ^ K := by
    refine Int.mul_le_mul_of_nonneg_right ?_ (by omega)
    have : ((e.length * f.length : Nat) : Int) * (4 * (e.length * f.length : Nat) + 1) ≤ 1024 * 4097 := Int.mul_le_mul (by omega) (by omega) (by omega) (by omega)
    omega
  have e52 : (2 : Int) ^ 52 = 4503599627370496 := by decide
  have hpre : MulPre e f K := ⟨h1.lst.words, h2.lst.words, h1.lst.ex, h2.lst.ex, by omega, by omega, by rw [e52]; omega⟩
  refine (times_any g1 c1 g2 c2 e f K w h1.lst h2.lst hpre).mono ?_
  rintro e' w' ⟨g3, cap, out, rfl, H⟩
  refine ⟨g3, cap, out, rfl, ⟨H.out.1, ?_, ?_, ?_⟩, H.out.2.1, H.out.2.2.1⟩
  · have := H.out.2.2.2.tot
    rw [List.take_length, Int.zero_mul, Int.add_zero, h1.tot, h2.tot] at this
    exact this
  · have := H.out.2.2.2.bound
    rw [List.take_length] at this
    simp only [List.take_zero, vals, List.map_nil, Fl.mass, Int.natAbs_zero, Nat.add_zero] at this hab ⊢
    have e1 : (2 : Int) ^ (a + b + 1) = 2199023255552 * 2 ^ K := by rw [p2_succ, hK, p2_add]; grind
    rw [e1]
    omega
  · have := H.out.2.2.2.len
    omega

theorem addinv_nm {σ : Int} {w' : World} {g3 cap : Nat} {e f out : Ws} {K a : Nat} (hl : Lst w' g3 cap out) (ha : AddInv σ e f K f.length out) {u v : Int} {n m : Nat} (hu : total (vals e) = u) (hv : total (vals f) = v) (hme : mass (vals e) ≤ 2 ^ a) (hmf : mass (vals f) ≤ 2 ^ a)
    (hn : e.length ≤ n) (hm : f.length ≤ m) (hnm : n + m ≤ 4096) (hK : a = 30 + K) : Nm w' g3 cap out (u + σ * v) (a + 2) (n + m) := by
  refine ⟨hl, ?_, ?_, ?_⟩
  · rw [ha.tot, List.take_length, hu, hv]
  · have hb := ha.bound
    rw [List.drop_length] at hb
    simp only [vals, List.map_nil, Fl.mass] at hb hme hmf ⊢
    have hp := p2_pos K
    have e1 : (2 : Int) ^ a = 1073741824 * 2 ^ K := by rw [hK, p2_add]; rfl
    have e2 : (2 : Int) ^ (a + 2) = 4294967296 * 2 ^ K := by rw [p2_succ, p2_succ, e1]; grind
    have h3 : (f.length : Int) * (e.length + f.length) * 2 ^ K ≤ 16777216 * 2 ^ K := by
      refine Int.mul_le_mul_of_nonneg_right ?_ (by omega)
      have : (f.length : Int) * (e.length + f.length) ≤ 4096 * 4096 := Int.mul_le_mul (by omega) (by omega) (by omega) (by omega)
      omega
    rw [e1] at hme hmf
    rw [e2]
    omega
  · have := ha.len
    omega

theorem add_fits {e f : Ws} {K a n m : Nat} (hme : mass (vals e) ≤ 2 ^ a) (hmf : mass (vals f) ≤ 2 ^ a) (hn : e.length ≤ n) (hm : f.length ≤ m) (hnm : n + m ≤ 4096) (hK : a = 30 + K) :
    mass (vals e) + mass (vals f) + f.length * (e.length + f.length) * 2 ^ K ≤ 2 ^ 52 * 2 ^ K := by
  have hp := p2_pos K
  have e1 : (2 : Int) ^ a = 1073741824 * 2 ^ K := by rw [hK, p2_add]; rfl
  have e52 : (2 : Int) ^ 52 = 4503599627370496 := by decide
  have h3 : (f.length : Int) * (e.length + f.length) * 2 ^ K ≤ 16777216 * 2 ^ K := by
    refine Int.mul_le_mul_of_nonneg_right ?_ (by omega)
    have : (f.length : Int) * (e.length + f.length) ≤ 4096 * 4096 := Int.mul_le_mul (by omega) (by omega) (by omega) (by omega)
    omega
  rw [e1] at hme hmf
  rw [e52]
  omega

theorem plus_nm {w : World} {g1 c1 g2 c2 : Nat} {e f : Ws} {u v : Int} {a n m : Nat} (h1 : Nm w g1 c1 e u a n) (h2 : Nm w g2 c2 f v a m) (hnm : n + m ≤ 4096) (h30 : 30 ≤ a) (h800 : a ≤ 800) :
    Calls Try.prog 83 #[.slice (some ⟨g1, 0, none⟩) e.length c1, .slice (some ⟨g2, 0, none⟩) f.length c2] w fun e' w' =>
      ∃ (g3 cap : Nat) (out : Ws), e' = .returned (.slice (some ⟨g3, 0, none⟩) out.length cap) ∧ Hid (Nm w' g3 cap out (u + v) (a + 2) (n + m) ∧ w.heap.size ≤ g3 ∧ New w w') := by
  obtain ⟨K, hK⟩ : ∃ K, a = 30 + K := ⟨a - 30, by omega⟩
  have hn := h1.len
  have hm := h2.len
  refine (plus_any g1 c1 g2 c2 e f K w h1.lst h2.lst (by omega) (by omega) (add_fits h1.mass h2.mass h1.len h2.len hnm hK)).mono ?_
  rintro e' w' ⟨g3, out, rfl, H⟩
  refine ⟨g3, _, out, rfl, ?_, H.out.2.1, H.out.2.2.1⟩
  have := addinv_nm H.out.1 H.out.2.2.2 h1.tot h2.tot h1.mass h2.mass h1.len h2.len hnm hK
  rwa [Int.one_mul] at this

theorem minus_nm {w : World} {g1 c1 g2 c2 : Nat} {e f : Ws} {u v : Int} {a n m : Nat} (h1 : Nm w g1 c1 e u a n) (h2 : Nm w g2 c2 f v a m) (hnm : n + m ≤ 4096) (h30 : 30 ≤ a) (h800 : a ≤ 800) :
    Calls Try.prog 77 #[.slice (some ⟨g1, 0, none⟩) e.length c1, .slice (some ⟨g2, 0, none⟩) f.length c2] w fun e' w' =>
      ∃ (g3 cap : Nat) (out : Ws), e' = .returned (.slice (some ⟨g3, 0, none⟩) out.length cap) ∧ Hid (Nm w' g3 cap out (u - v) (a + 2) (n + m) ∧ w.heap.size ≤ g3 ∧ New w w') := by
  obtain ⟨K, hK⟩ : ∃ K, a = 30 + K := ⟨a - 30, by omega⟩
  have hn := h1.len
  have hm := h2.len
  refine (minus_any g1 c1 g2 c2 e f K w h1.lst h2.lst (by omega) (by omega) (add_fits h1.mass h2.mass h1.len h2.len hnm hK)).mono ?_
  rintro e' w' ⟨g3, out, rfl, H⟩
  refine ⟨g3, _, out, rfl, ?_, H.out.2.1, H.out.2.2.1⟩
  have := addinv_nm H.out.1 H.out.2.2.2 h1.tot h2.tot h1.mass h2.mass h1.len h2.len hnm hK
  have e1 : u + -1 * v = u - v := by omega
  rwa [e1] at this

theorem difference_nm (a b : Nat × Int) (w : World) (ha : Co a) (hb : Co b) :
    Calls Try.prog 94 #[.float .f64 a.1, .float .f64 b.1] w fun e w' =>
      ∃ (g : Nat) (out : Ws), e = .returned (.slice (some ⟨g, 0, none⟩) out.length 2) ∧ Hid (Nm w' g 2 out (a.2 - b.2) 55 2 ∧ w.heap.size ≤ g ∧ New w w') := by
  refine (difference_any a b w ha hb).mono ?_
  rintro e' w' ⟨g, out, rfl, H⟩
  exact ⟨g, out, rfl, ⟨H.out.1, H.out.2.2.2.1, H.out.2.2.2.2, H.out.1.le⟩, H.out.2.1, H.out.2.2.1⟩

set_option maxHeartbeats 400000 in
theorem exactApart_any (px py fx fy : Int) (w : World) (h1 : Cd px) (h2 : Cd py) (h3 : Cd fx) (h4 : Cd fy) :
    Calls Try.prog 75 #[.agg #[.int .i64 px, .int .i64 py], .agg #[.int .i64 fx, .int .i64 fy]] w fun e w' =>
      ∃ (g1 g2 : Nat) (X Y : Ws), e = .returned (.tuple #[.slice (some ⟨g1, 0, none⟩) X.length 2, .slice (some ⟨g2, 0, none⟩) Y.length 2]) ∧ Hid (Nm w' g1 2 X (px - fx) 55 2 ∧ Nm w' g2 2 Y (py - fy) 55 2 ∧ w.heap.size ≤ g1 ∧ w.heap.size ≤ g2 ∧ New w w') := by
  go_enter Try.func75, Try.ntmps75
  go_wp2_with fail
  refine (difference_nm (floatOfInt .f64 px, px) (floatOfInt .f64 fx, fx) _ h1.co h3.co).mono ?_
  rintro e w1 ⟨g1, X, rfl, H1⟩
  have r1 := H1.out.2.2.rule
  go_wp2_with fail
  refine (difference_nm (floatOfInt .f64 py, py) (floatOfInt .f64 fy, fy) _ h2.co h4.co).mono ?_
  rintro e w2 ⟨g2, Y, rfl, H2⟩
  have HN : Hid (New w w1 ∧ w.heap.size ≤ g1) := ⟨((New.alloc _ _).alloc' _).trans' H1.out.2.2, by have := H1.out.2.1; simp at this; omega⟩
  clear r1
  go_wp2_with fail
  go_ret2
  exact ⟨g1, g2, X, Y, rfl, H1.out.1.kept H2.out.2.2, H2.out.1, HN.out.2, Nat.le_trans HN.out.1.size H2.out.2.1, HN.out.1.trans' H2.out.2.2⟩

set_option maxHeartbeats 800000 in
theorem exactSide_any (ax ay bx by' cx cy : Int) (w : World) (h1 : Cd ax) (h2 : Cd ay) (h3 : Cd bx) (h4 : Cd by') (h5 : Cd cx) (h6 : Cd cy) :
    Calls Try.prog 57 #[.agg #[.int .i64 ax, .int .i64 ay], .agg #[.int .i64 bx, .int .i64 by'], .agg #[.int .i64 cx, .int .i64 cy]] w fun e w' =>
      e = .returned (.int .i64 (sgn (det ax ay bx by' cx cy))) ∧ Hid (New w w') := by
  go_enter Try.func57, Try.ntmps57
  go_wp2_with fail
  refine (exactApart_any bx by' ax ay _ h3 h4 h1 h2).mono ?_
  rintro e w1 ⟨g1, g2, X1, Y1, rfl, H1⟩
  have r1 := H1.out.2.2.2.2.rule
  go_wp2_with fail
  refine (exactApart_any cx cy ax ay _ h5 h6 h1 h2).mono ?_
  rintro e w2 ⟨g3, g4, X2, Y2, rfl, H2⟩
  have HN : Hid (New w w2) := ((((New.alloc _ _).alloc' _).alloc' _).trans' H1.out.2.2.2.2).trans' H2.out.2.2.2.2
  clear r1
  go_wp2_with fail
  refine (times_nm (H1.out.1.kept H2.out.2.2.2.2) H2.out.2.1 (by omega) (by omega) (by omega)).mono ?_
  rintro e w3 ⟨g5, c5, P, rfl, H3⟩
  go_wp2_with fail
  refine (times_nm ((H1.out.2.1.kept H2.out.2.2.2.2).kept H3.out.2.2) (H2.out.1.kept H3.out.2.2) (by omega) (by omega) (by omega)).mono ?_
  rintro e w4 ⟨g6, c6, Q, rfl, H4⟩
  go_wp2_with fail
  refine (minus_nm (H3.out.1.kept H4.out.2.2) H4.out.1 (by omega) (by omega) (by omega)).mono ?_
  rintro e w5 ⟨g7, c7, R, rfl, H5⟩
  go_wp2_with fail
  refine (sign_any g7 c7 R _ H5.out.1.lst).mono ?_
  rintro e w6 ⟨rfl, rfl⟩
  go_wp2_with fail
  go_ret
  exact ⟨by rw [H5.out.1.tot]; rfl, ((HN.out.trans' H3.out.2.2).trans' H4.out.2.2).trans' H5.out.2.2⟩

set_option maxHeartbeats 400000 in
theorem of_any (ax ay bx by' cx cy : Int) (w : World) (h1 : Cd ax) (h2 : Cd ay) (h3 : Cd bx) (h4 : Cd by') (h5 : Cd cx) (h6 : Cd cy) :
    Calls Try.prog 37 #[.agg #[.int .i64 ax, .int .i64 ay], .agg #[.int .i64 bx, .int .i64 by'], .agg #[.int .i64 cx, .int .i64 cy]] w fun e w' =>
      e = .returned (.int .i64 (sgn (det ax ay bx by' cx cy))) ∧ Hid (New w w') := by
  go_enter Try.func37, Try.ntmps37
  go_wp2_with fail
  refine (roughSide_any ax ay bx by' cx cy _ h1 h2 h3 h4 h5 h6).mono ?_
  rintro e w1 ⟨sg, b, rfl, H1⟩
  have r1 := H1.out.1.rule
  have HN : Hid (New w w1) := (((New.alloc _ _).alloc' _).alloc' _).trans' H1.out.1
  cases b with
  | true =>
    have hs := H1.out.2 rfl
    subst hs
    go_wp2_with fail
    go_ret
    exact ⟨rfl, HN.out⟩
  | false =>
    go_wp2_with fail
    refine (exactSide_any ax ay bx by' cx cy _ h1 h2 h3 h4 h5 h6).mono ?_
    rintro e w2 ⟨rfl, H2⟩
    clear r1
    go_wp2_with fail
    go_ret
    exact ⟨rfl, HN.out.trans' H2.out⟩

end Go.Proofs.Ytgeoffpcmkofkaa
/- The walks of package side: 'newRoughRow', 'roughTerm'. -/
namespace Go.Proofs.Ytgeoffpcmkofkaa
open Go.RowKit Fl
set_option maxRecDepth 100000

/-- A row of the determinant, rounded. -/
structure RRow (X Y : Int) (x y s : Nat × Int) : Prop where
  dx : Df X x
  dy : Df Y y
  ws : F s.1 s.2 0
  err : E (X * X + Y * Y) s.2 s.2 521
  nn : 0 ≤ s.2
  small : (s.2.natAbs : Int) ≤ 2 ^ 111

theorem sq_nonneg (x : Int) : 0 ≤ x * x := by
  rcases Int.le_total 0 x with h | h
  · exact Int.mul_nonneg h h
  · have := Int.mul_nonneg (show 0 ≤ -x by omega) (show 0 ≤ -x by omega)
    have e : -x * -x = x * x := by grind
    omega

theorem rrow_words {X Y : Int} {x y : Nat × Int} (h1 : Df X x) (h2 : Df Y y) :
    ∃ (a b : Nat) (s : Nat × Int), Ieee.double.mul x.1 x.1 = some a ∧ Ieee.double.mul y.1 y.1 = some b ∧ Ieee.double.add a b = some s.1 ∧ RRow X Y x y s := by
  have b1 := mul_le_p2 h1.p2 h1.p2
  have b2 := mul_le_p2 h2.p2 h2.p2
  obtain ⟨a, za, e1, q1, f1⟩ := h1.word.mul h1.word (by omega) (small_Big b1 (by omega))
  obtain ⟨b, zb, e2, q2, f2⟩ := h2.word.mul h2.word (by omega) (small_Big b2 (by omega))
  have c1 := rnd_p2 q1 b1
  have c2 := rnd_p2 q2 b2
  have b3 := add_le_p2 c1 c2
  obtain ⟨s, zs, e3, q3, f3⟩ := f1.add f2 (by omega) (small_Big b3 (by omega))
  have na : 0 ≤ za := q1.ge Rep.zero (sq_nonneg _)
  have nb : 0 ≤ zb := q2.ge Rep.zero (sq_nonneg _)
  have ns : 0 ≤ zs := q3.ge Rep.zero (by omega)
  have E1 : E (X * X) za za.natAbs 391 := (((E.rnd h1.rnd).mul (E.rnd h1.rnd) (by omega) (by omega) (by omega) (by omega)).round q1 (by rw [Int.natAbs_mul, Int.natCast_mul]) (by omega) (by omega)).mono (by omega)
  have E2 : E (Y * Y) zb zb.natAbs 391 := (((E.rnd h2.rnd).mul (E.rnd h2.rnd) (by omega) (by omega) (by omega) (by omega)).round q2 (by rw [Int.natAbs_mul, Int.natCast_mul]) (by omega) (by omega)).mono (by omega)
  have E3 := (E1.add E2).round q3 (by omega) (by omega) (by omega)
  have e4 : ((zs.natAbs : Int)) = zs := by omega
  rw [e4] at E3
  exact ⟨a, b, (s, zs), e1, e2, e3, h1, h2, f3, E3.mono (by omega), ns, rnd_p2 q3 b3⟩

theorem New.below' {w w' : World} (h : New w w') : Below w.heap.size w w' := ⟨h.os, h.tape, h.output, h.size, fun k hk => h.block k hk (by simp)⟩
theorem Below.new' {w w' : World} (h : Below w.heap.size w w') : New w w' := ⟨h.os, h.tape, h.output, h.size, fun k hk _ => h.block k hk⟩
theorem New.frule' {W w1 : World} (h : New W w1) : ∀ b o, b < W.heap.size → w1.frozen? ⟨b, o, none⟩ = W.frozen? ⟨b, o, none⟩ :=
  fun b o hb => World.frozen?_of_block (a := ⟨b, o, none⟩) (h.block b hb (by simp))

theorem store_float (a : Addr) (b : Nat) (w : World) : (store a (.float .f64 b)).run Try.prog w = stored Try.prog w a (.float .f64 b) .plain := run_store Try.prog w a _ _ rfl

set_option maxHeartbeats 400000 in
theorem newRoughRow_any (px py dx dy : Int) (w : World) (h1 : Cd px) (h2 : Cd py) (h3 : Cd dx) (h4 : Cd dy) :
    Calls Try.prog 79 #[.agg #[.int .i64 px, .int .i64 py], .agg #[.int .i64 dx, .int .i64 dy]] w fun e w' =>
      ∃ x y s : Nat × Int, e = .returned (.agg #[.float .f64 x.1, .float .f64 y.1, .float .f64 s.1]) ∧ Hid (New w w' ∧ RRow (px - dx) (py - dy) x y s) := by
  go_enter Try.func79, Try.ntmps79
  go_wp2_with fail
  refine (roughApart_any px py dx dy _ h1 h2 h3 h4).mono ?_
  rintro e w1 ⟨x, y, rfl, H1⟩
  obtain ⟨a, b, s, e1, e2, e3, hr⟩ := rrow_words H1.out.2.1 H1.out.2.2
  have HR : Hid (New (((w.alloc (.cells #[.int .i64 px, .int .i64 py] 23)).alloc (.cells #[.int .i64 dx, .int .i64 dy] 23)).alloc (.cells #[.float .f64 0, .float .f64 0, .float .f64 0] 93)) w1 ∧ RRow (px - dx) (py - dy) x y s) := ⟨H1.out.1, hr⟩
  have g1 := fmul e1 81
  have g2 := fmul e2 81
  have g3 := fadd e3 81
  have q0 : w1.cell? ⟨w.heap.size + 1 + 1, 0, none⟩ = some (.float .f64 0) := by rw [HR.out.1.rule _ _ (by simp)]; go_simp
  have q1 : w1.cell? ⟨w.heap.size + 1 + 1, 1, none⟩ = some (.float .f64 0) := by rw [HR.out.1.rule _ _ (by simp)]; go_simp
  have q2 : w1.cell? ⟨w.heap.size + 1 + 1, 2, none⟩ = some (.float .f64 0) := by rw [HR.out.1.rule _ _ (by simp)]; go_simp
  have q3 : ∀ o, w1.frozen? ⟨w.heap.size + 1 + 1, o, none⟩ = false := by intro o; rw [HR.out.1.frule' _ _ (by simp)]; go_simp
  have hst := store_float
  have f0 := q3 0
  have f1 := q3 1
  have f2 := q3 2
  clear e1 e2 e3 H1 hr q3
  go_wp2_with fail
  refine bodyPost_ret (v := .agg #[.float .f64 x.1, .float .f64 y.1, .float .f64 s.1]) (by simp [results, Try.results79, go_sem, q0, q1, q2]) rfl ?_
  refine ⟨x, y, s, rfl, ?_, HR.out.2⟩
  exact Below.new' ((((New.below' ((((New.alloc w _).alloc' _).alloc' _).trans' HR.out.1)).setCell (p := ⟨w.heap.size + 1 + 1, 0, none⟩) (by simp <;> omega) (.float .f64 x.1)).setCell (p := ⟨w.heap.size + 1 + 1, 1, none⟩) (by simp <;> omega) (.float .f64 y.1)).setCell (p := ⟨w.heap.size + 1 + 1, 2, none⟩) (by simp <;> omega) (.float .f64 s.1))

/-- A term of the determinant, rounded, and its size. -/
structure RTerm (T : Int) (val size : Nat × Int) : Prop where
  wv : F val.1 val.2 0
  wz : F size.1 size.2 0
  err : ∃ s, E T val.2 s 1175 ∧ G s size.2 259
  sv : (val.2.natAbs : Int) ≤ 2 ^ 222
  sz : (size.2.natAbs : Int) ≤ 2 ^ 222

theorem rterm_words {A B C D X Y : Int} {ux uy us vx vy vs wx wy ws : Nat × Int} (hu : RRow X Y ux uy us) (hv : RRow A B vx vy vs) (hw : RRow C D wx wy ws) :
    ∃ (l r d t : Nat) (val size : Nat × Int), Ieee.double.mul vx.1 wy.1 = some l ∧ Ieee.double.mul vy.1 wx.1 = some r ∧ Ieee.double.sub l r = some d ∧ Ieee.double.mul us.1 d = some val.1 ∧ Ieee.double.add (ab l) (ab r) = some t ∧ Ieee.double.mul us.1 t = some size.1 ∧
      l < 2 ^ 64 ∧ r < 2 ^ 64 ∧ RTerm ((X * X + Y * Y) * (A * D - B * C)) val size := by
  have b1 := mul_le_p2 hv.dx.p2 hw.dy.p2
  have b2 := mul_le_p2 hv.dy.p2 hw.dx.p2
  obtain ⟨l, zl, e1, q1, f1⟩ := hv.dx.word.mul hw.dy.word (by omega) (small_Big b1 (by omega))
  obtain ⟨r, zr, e2, q2, f2⟩ := hv.dy.word.mul hw.dx.word (by omega) (small_Big b2 (by omega))
  have c1 := rnd_p2 q1 b1
  have c2 := rnd_p2 q2 b2
  have b3 := sub_le_p2 c1 c2
  obtain ⟨d, zd, e3, q3, f3⟩ := f1.sub f2 (by omega) (small_Big b3 (by omega))
  have c3 := rnd_p2 q3 b3
  have b4 : (((zl.natAbs : Int) + (zr.natAbs : Int)).natAbs : Int) ≤ 2 ^ (55 + 55 + 1) := add_le_p2 (by simpa using c1) (by simpa using c2)
  obtain ⟨t, zt, e4, q4, f4⟩ := f1.abs.add f2.abs (by omega) (small_Big b4 (by omega))
  have c4 := rnd_p2 q4 b4
  have b5 := mul_le_p2 hu.small c3
  have b6 := mul_le_p2 hu.small c4
  obtain ⟨v, zv, e5, q5, f5⟩ := hu.ws.mul f3 (by omega) (small_Big b5 (by omega))
  obtain ⟨z, zz, e6, q6, f6⟩ := hu.ws.mul f4 (by omega) (small_Big b6 (by omega))
  have E1 : E (A * D) zl zl.natAbs 391 := (((E.rnd hv.dx.rnd).mul (E.rnd hw.dy.rnd) (by omega) (by omega) (by omega) (by omega)).round q1 (by rw [Int.natAbs_mul, Int.natCast_mul]) (by omega) (by omega)).mono (by omega)
  have E2 : E (B * C) zr zr.natAbs 391 := (((E.rnd hv.dy.rnd).mul (E.rnd hw.dx.rnd) (by omega) (by omega) (by omega) (by omega)).round q2 (by rw [Int.natAbs_mul, Int.natCast_mul]) (by omega) (by omega)).mono (by omega)
  have E3 := (E1.sub E2).roundS q3 (by omega) (by omega)
  have E4 := ((hu.err.mul E3 (by omega) (by omega) (by omega) (by omega)).roundS q5 (by omega) (by omega)).mono (show _ ≤ 1175 by omega)
  have G1 := ((G.rnd q4 (by omega)).mul hu.nn).round q6 (by omega) (by omega)
  exact ⟨l, r, d, t, (v, zv), (z, zz), e1, e2, e3, e5, e4, e6, f1.1, f2.1, f5, f6, ⟨_, E4, G1⟩, rnd_p2 q5 b5, rnd_p2 q6 b6⟩

theorem abs_same (b : Nat) (w : World) (h : b < 2 ^ 64) : Calls Try.prog 74 #[.float .f64 b] w fun e w' => e = .returned (.float .f64 (ab b)) ∧ w' = w := abs_walk b w h

set_option maxHeartbeats 800000 in
theorem roughTerm_any {A B C D X Y : Int} {ux uy us vx vy vs wx wy ws : Nat × Int} (w : World) (hu : RRow X Y ux uy us) (hv : RRow A B vx vy vs) (hw : RRow C D wx wy ws) :
    Calls Try.prog 80 #[.agg #[.float .f64 ux.1, .float .f64 uy.1, .float .f64 us.1], .agg #[.float .f64 vx.1, .float .f64 vy.1, .float .f64 vs.1], .agg #[.float .f64 wx.1, .float .f64 wy.1, .float .f64 ws.1]] w fun e w' =>
      ∃ val size : Nat × Int, e = .returned (.tuple #[.float .f64 val.1, .float .f64 size.1]) ∧ Hid (New w w' ∧ RTerm ((X * X + Y * Y) * (A * D - B * C)) val size) := by
  obtain ⟨l, r, d, t, val, size, e1, e2, e3, e4, e5, e6, hl, hr, ht⟩ := rterm_words hu hv hw
  have HT : Hid (RTerm ((X * X + Y * Y) * (A * D - B * C)) val size) := ht
  have g1 := fmul e1 81
  have g2 := fmul e2 81
  have g3 := fsub e3 81
  have g4 := fmul e4 81
  have g5 := fadd e5 81
  have g6 := fmul e6 81
  clear e1 e2 e3 e4 e5 e6 ht hu hv hw
  go_enter Try.func80, Try.ntmps80
  go_wp2_with fail
  go_quiet (fail)
  go_wp2_with fail
  generalize hV : ((((w.alloc (.cells #[.float .f64 ux.1, .float .f64 uy.1, .float .f64 us.1] 93)).alloc (.cells #[.float .f64 vx.1, .float .f64 vy.1, .float .f64 vs.1] 93)).alloc (.cells #[.float .f64 wx.1, .float .f64 wy.1, .float .f64 ws.1] 93)).drewN nq) = V
  have hc : V.cell? ⟨w.heap.size, 2, none⟩ = some (.float .f64 us.1) := by subst hV; go_simp
  have HN : Hid (New w V) := by rw [← hV]; exact (((New.alloc _ _).alloc' _).alloc' _).drewN _
  clear hV
  go_quiet (first | (go_at_call 74; exact Calls.quiet_of_same (abs_same l _ hl)) | (go_at_call 74; exact Calls.quiet_of_same (abs_same r _ hr)))
  go_wp2_with fail
  go_ret2
  refine ⟨val, size, rfl, ?_, HT.out⟩
  exact HN.out.drewN _

end Go.Proofs.Ytgeoffpcmkofkaa
/- The walks of package side: 'newExactRow', 'exactTerm'. -/
namespace Go.Proofs.Ytgeoffpcmkofkaa
open Go.RowKit Fl
set_option maxRecDepth 100000

/-- A row of the determinant, not rounded, in memory. -/
structure ERow (w : World) (X Y : Int) (g1 g2 g3 c3 : Nat) (x y s : Ws) : Prop where
  nx : Nm w g1 2 x X 55 2
  ny : Nm w g2 2 y Y 55 2
  ns : Nm w g3 c3 s (X * X + Y * Y) 113 16

theorem ERow.kept {w w' : World} {X Y : Int} {g1 g2 g3 c3 : Nat} {x y s : Ws} (h : ERow w X Y g1 g2 g3 c3 x y s) (hn : New w w') : ERow w' X Y g1 g2 g3 c3 x y s :=
  ⟨h.nx.kept hn, h.ny.kept hn, h.ns.kept hn⟩

/-- A block that is written lies apart from an expansion. -/
theorem Lst.set3 {w : World} {g cap b : Nat} {ws : Ws} (h : Lst w g cap ws) (hb : g ≠ b) (x y z : Value) : Lst (((w.setCell ⟨b, 0, none⟩ x).setCell ⟨b, 1, none⟩ y).setCell ⟨b, 2, none⟩ z) g cap ws := by
  obtain ⟨cur, h1, h2⟩ := h.row
  refine ⟨⟨cur, ?_, h2⟩, h.words, h.ex, h.small⟩
  rw [heap_setCell_other _ ⟨b, 2, none⟩ g z hb, heap_setCell_other _ ⟨b, 1, none⟩ g y hb, heap_setCell_other _ ⟨b, 0, none⟩ g x hb]
  exact h1

theorem Nm.set3 {w : World} {g cap b : Nat} {ws : Ws} {v : Int} {m n : Nat} (h : Nm w g cap ws v m n) (hb : g ≠ b) (x y z : Value) : Nm (((w.setCell ⟨b, 0, none⟩ x).setCell ⟨b, 1, none⟩ y).setCell ⟨b, 2, none⟩ z) g cap ws v m n :=
  ⟨h.lst.set3 hb x y z, h.tot, h.mass, h.len⟩

/-- The block of an expansion is none of another type. -/
theorem Lst.ne_block {w : World} {g cap b : Nat} {ws : Ws} {cs : Array Value} {t : TypeId} (h : Lst w g cap ws) (hb : w.heap[b]? = some (.cells cs t (0, 0))) (ht : t ≠ 81) : g ≠ b := by
  rintro rfl
  obtain ⟨cur, h1, _⟩ := h.row
  rw [hb] at h1
  simp at h1
  exact ht h1.2

set_option maxHeartbeats 800000 in
theorem newExactRow_any (px py dx dy : Int) (w : World) (h1 : Cd px) (h2 : Cd py) (h3 : Cd dx) (h4 : Cd dy) :
    Calls Try.prog 81 #[.agg #[.int .i64 px, .int .i64 py], .agg #[.int .i64 dx, .int .i64 dy]] w fun e w' =>
      ∃ (g1 g2 g3 c3 : Nat) (x y s : Ws), e = .returned (.agg #[.slice (some ⟨g1, 0, none⟩) x.length 2, .slice (some ⟨g2, 0, none⟩) y.length 2, .slice (some ⟨g3, 0, none⟩) s.length c3]) ∧ Hid (New w w' ∧ ERow w' (px - dx) (py - dy) g1 g2 g3 c3 x y s) := by
  go_enter Try.func81, Try.ntmps81
  go_wp2_with fail
  refine (exactApart_any px py dx dy _ h1 h2 h3 h4).mono ?_
  rintro e w1 ⟨g1, g2, x, y, rfl, H1⟩
  go_wp2_with fail
  refine (times_nm H1.out.1 H1.out.1 (by omega) (by omega) (by omega)).mono ?_
  rintro e w2 ⟨g3, c3, p, rfl, H2⟩
  go_wp2_with fail
  refine (times_nm (H1.out.2.1.kept H2.out.2.2) (H1.out.2.1.kept H2.out.2.2) (by omega) (by omega) (by omega)).mono ?_
  rintro e w3 ⟨g4, c4, q, rfl, H3⟩
  go_wp2_with fail
  refine (plus_nm (H2.out.1.kept H3.out.2.2) H3.out.1 (by omega) (by omega) (by omega)).mono ?_
  rintro e w4 ⟨g5, c5, s, rfl, H4⟩
  have HN : Hid (New (((w.alloc (.cells #[.int .i64 px, .int .i64 py] 23)).alloc (.cells #[.int .i64 dx, .int .i64 dy] 23)).alloc (.cells #[.slice none 0 0, .slice none 0 0, .slice none 0 0] 97)) w4) := ((H1.out.2.2.2.2.trans' H2.out.2.2).trans' H3.out.2.2).trans' H4.out.2.2
  have hR : w4.heap[w.heap.size + 1 + 1]? = some (.cells #[.slice none 0 0, .slice none 0 0, .slice none 0 0] 97 (0, 0)) := by
    rw [HN.out.block _ (by simp) (by simp)]
    have := _root_.Go.heap_alloc_new ((w.alloc (.cells #[.int .i64 px, .int .i64 py] 23)).alloc (.cells #[.int .i64 dx, .int .i64 dy] 23)) (.cells #[.slice none 0 0, .slice none 0 0, .slice none 0 0] 97)
    simpa using this
  have HR : Hid (w4.heap[w.heap.size + 1 + 1]? = some (.cells #[.slice none 0 0, .slice none 0 0, .slice none 0 0] 97 (0, 0))) := hR
  have q0 : w4.cell? ⟨w.heap.size + 1 + 1, 0, none⟩ = some (.slice none 0 0) := by simp [World.cell?, hR]
  have q1 : w4.cell? ⟨w.heap.size + 1 + 1, 1, none⟩ = some (.slice none 0 0) := by simp [World.cell?, hR]
  have q2 : w4.cell? ⟨w.heap.size + 1 + 1, 2, none⟩ = some (.slice none 0 0) := by simp [World.cell?, hR]
  have f0 : w4.frozen? ⟨w.heap.size + 1 + 1, 0, none⟩ = false := by simp [World.frozen?, hR]
  have f1 : w4.frozen? ⟨w.heap.size + 1 + 1, 1, none⟩ = false := by simp [World.frozen?, hR]
  have f2 : w4.frozen? ⟨w.heap.size + 1 + 1, 2, none⟩ = false := by simp [World.frozen?, hR]
  clear hR
  go_wp2_with fail
  refine bodyPost_ret (v := .agg #[.slice (some ⟨g1, 0, none⟩) x.length 2, .slice (some ⟨g2, 0, none⟩) y.length 2, .slice (some ⟨g5, 0, none⟩) s.length c5]) (by simp [results, Try.results81, go_sem, q0, q1, q2]) rfl ?_
  have kx := ((H1.out.1.kept H2.out.2.2).kept H3.out.2.2).kept H4.out.2.2
  have ky := ((H1.out.2.1.kept H2.out.2.2).kept H3.out.2.2).kept H4.out.2.2
  refine ⟨g1, g2, g5, c5, x, y, s, rfl, ?_, kx.set3 (kx.lst.ne_block HR.out (by decide)) _ _ _, ky.set3 (ky.lst.ne_block HR.out (by decide)) _ _ _, H4.out.1.set3 (H4.out.1.lst.ne_block HR.out (by decide)) _ _ _⟩
  exact Below.new' ((((New.below' ((((New.alloc w _).alloc' _).alloc' _).trans' HN.out)).setCell (p := ⟨w.heap.size + 1 + 1, 0, none⟩) (by simp <;> omega) _).setCell (p := ⟨w.heap.size + 1 + 1, 1, none⟩) (by simp <;> omega) _).setCell (p := ⟨w.heap.size + 1 + 1, 2, none⟩) (by simp <;> omega) _)

theorem five_keep {W w' : World} {g : Nat} {p q r s t : Value} (hn : New W w') (hs : g + 1 + 1 < W.heap.size ∧ W.cell? ⟨g, 2, none⟩ = some p ∧ W.cell? ⟨g + 1, 0, none⟩ = some q ∧ W.cell? ⟨g + 1, 1, none⟩ = some r ∧ W.cell? ⟨g + 1 + 1, 0, none⟩ = some s ∧ W.cell? ⟨g + 1 + 1, 1, none⟩ = some t) :
    g + 1 + 1 < w'.heap.size ∧ w'.cell? ⟨g, 2, none⟩ = some p ∧ w'.cell? ⟨g + 1, 0, none⟩ = some q ∧ w'.cell? ⟨g + 1, 1, none⟩ = some r ∧ w'.cell? ⟨g + 1 + 1, 0, none⟩ = some s ∧ w'.cell? ⟨g + 1 + 1, 1, none⟩ = some t := by
  obtain ⟨h0, h1, h2, h3, h4, h5⟩ := hs
  have := hn.size
  refine ⟨by omega, ?_, ?_, ?_, ?_, ?_⟩
  all_goals (rw [hn.rule _ _ (by omega)]; assumption)

set_option maxHeartbeats 1600000 in
theorem exactTerm_any {A B C D X Y : Int} {ux uy us cs vx vy vs dv wx wy ws ew : Nat} {k l s p q t m n o : Ws} (w : World) (hu : ERow w X Y ux uy us cs k l s) (hv : ERow w A B vx vy vs dv p q t) (hw : ERow w C D wx wy ws ew m n o) :
    Calls Try.prog 82 #[.agg #[.slice (some ⟨ux, 0, none⟩) k.length 2, .slice (some ⟨uy, 0, none⟩) l.length 2, .slice (some ⟨us, 0, none⟩) s.length cs], .agg #[.slice (some ⟨vx, 0, none⟩) p.length 2, .slice (some ⟨vy, 0, none⟩) q.length 2, .slice (some ⟨vs, 0, none⟩) t.length dv], .agg #[.slice (some ⟨wx, 0, none⟩) m.length 2, .slice (some ⟨wy, 0, none⟩) n.length 2, .slice (some ⟨ws, 0, none⟩) o.length ew]] w fun e w' =>
      ∃ (g c : Nat) (z : Ws), e = .returned (.slice (some ⟨g, 0, none⟩) z.length c) ∧ Hid (New w w' ∧ Nm w' g c z ((X * X + Y * Y) * (A * D - B * C)) 227 512) := by
  obtain ⟨W, hW⟩ : ∃ W, W = ((w.alloc (.cells #[.slice (some ⟨ux, 0, none⟩) k.length 2, .slice (some ⟨uy, 0, none⟩) l.length 2, .slice (some ⟨us, 0, none⟩) s.length cs] 97)).alloc (.cells #[.slice (some ⟨vx, 0, none⟩) p.length 2, .slice (some ⟨vy, 0, none⟩) q.length 2, .slice (some ⟨vs, 0, none⟩) t.length dv] 97)).alloc (.cells #[.slice (some ⟨wx, 0, none⟩) m.length 2, .slice (some ⟨wy, 0, none⟩) n.length 2, .slice (some ⟨ws, 0, none⟩) o.length ew] 97) := ⟨_, rfl⟩
  have HW : Hid (New w W.drew) := by rw [hW]; exact (((New.alloc _ _).alloc' _).alloc' _).drewN 1
  have hS : w.heap.size + 1 + 1 < W.heap.size ∧ W.cell? ⟨w.heap.size, 2, none⟩ = some (.slice (some ⟨us, 0, none⟩) s.length cs) ∧ W.cell? ⟨w.heap.size + 1, 0, none⟩ = some (.slice (some ⟨vx, 0, none⟩) p.length 2) ∧ W.cell? ⟨w.heap.size + 1, 1, none⟩ = some (.slice (some ⟨vy, 0, none⟩) q.length 2) ∧ W.cell? ⟨w.heap.size + 1 + 1, 0, none⟩ = some (.slice (some ⟨wx, 0, none⟩) m.length 2) ∧ W.cell? ⟨w.heap.size + 1 + 1, 1, none⟩ = some (.slice (some ⟨wy, 0, none⟩) n.length 2) := by
    rw [hW]
    refine ⟨by simp, ?_, ?_, ?_, ?_, ?_⟩ <;> go_simp
  go_enter Try.func82, Try.ntmps82
  go_wp2_with fail
  rw [← hW]
  clear hW
  go_region_held3 (fun w' => w.heap.size + 1 + 1 < w'.heap.size ∧ w'.cell? ⟨w.heap.size, 2, none⟩ = some (.slice (some ⟨us, 0, none⟩) s.length cs) ∧ w'.cell? ⟨w.heap.size + 1, 0, none⟩ = some (.slice (some ⟨vx, 0, none⟩) p.length 2) ∧ w'.cell? ⟨w.heap.size + 1, 1, none⟩ = some (.slice (some ⟨vy, 0, none⟩) q.length 2) ∧ w'.cell? ⟨w.heap.size + 1 + 1, 0, none⟩ = some (.slice (some ⟨wx, 0, none⟩) m.length 2) ∧ w'.cell? ⟨w.heap.size + 1 + 1, 1, none⟩ = some (.slice (some ⟨wy, 0, none⟩) n.length 2))
    (first | exact hS | exact five_keep H4.out.2.2 (by assumption) | exact five_keep H3.out.2.2 (by assumption) | exact five_keep H2.out.2.2 (by assumption) | exact five_keep H1.out.2.2 (by assumption) | go_keep)
    (first
      | (go_at_call_of 76 vx; refine (times_nm (hv.nx.kept HW.out) (hw.ny.kept HW.out) (by omega) (by omega) (by omega)).mono ?_; rintro e w1 ⟨g1, c1, z1, rfl, H1⟩)
      | (go_at_call_of 76 vy; refine (times_nm ((hv.ny.kept HW.out).kept H1.out.2.2) ((hw.nx.kept HW.out).kept H1.out.2.2) (by omega) (by omega) (by omega)).mono ?_; rintro e w2 ⟨g2, c2, z2, rfl, H2⟩)
      | (go_at_call 77; refine (minus_nm (H1.out.1.kept H2.out.2.2) H2.out.1 (by omega) (by omega) (by omega)).mono ?_; rintro e w3 ⟨g3, c3, z3, rfl, H3⟩)
      | (go_at_call_of 76 us; refine (times_nm ((((hu.ns.kept HW.out).kept H1.out.2.2).kept H2.out.2.2).kept H3.out.2.2) H3.out.1 (by omega) (by omega) (by omega)).mono ?_; rintro e w4 ⟨g4, c4, z4, rfl, H4⟩))
  go_wp2_with fail
  go_ret
  exact ⟨g4, c4, z4, rfl, (((HW.out.trans' H1.out.2.2).trans' H2.out.2.2).trans' H3.out.2.2).trans' H4.out.2.2, H4.out.1⟩

end Go.Proofs.Ytgeoffpcmkofkaa
/- A region that draws its order, by an invariant: each operation that may come up keeps it. -/
namespace Go.Proofs.Ytgeoffpcmkofkaa
open Go.RowKit
set_option maxRecDepth 100000

section
variable {P : Program} {ops : Array Oper} {Q : Exit → Act → World → Prop} {md : Region.Mode}

/-- An operation may come up: it has not, and what it waits for has. -/
structure Rdy (md : Region.Mode) (listed : Array Bool) (i : Nat) (o : Oper) : Prop where
  mine : listed.getD i true = false
  ahead : ∀ e ∈ o.after, Region.binds md e = true → listed.getD e.on false = true

theorem ready_iff {listed : Array Bool} {i : Nat} (h : i ∈ Region.ready md ops listed) : ∃ o, ops[i]? = some o ∧ i < ops.size ∧ Rdy md listed i o := by
  unfold Region.ready at h
  rw [List.mem_filter] at h
  obtain ⟨h1, h2⟩ := h
  have hi : i < ops.size := by simpa using h1
  rw [Bool.and_eq_true] at h2
  refine ⟨ops[i], Array.getElem?_eq_getElem hi, hi, by simpa using h2.1, ?_⟩
  have h3 := h2.2
  rw [Array.getElem?_eq_getElem hi] at h3
  simp only [Option.map_some, Option.getD_some] at h3
  rw [Array.all_eq_true_iff_forall_mem] at h3
  intro e he hb
  have := h3 e he
  rw [hb] at this
  simpa using this

theorem ready_of {listed : Array Bool} {i : Nat} {o : Oper} (ho : ops[i]? = some o) (h : Rdy md listed i o) : i ∈ Region.ready md ops listed := by
  unfold Region.ready
  rw [List.mem_filter]
  have hi : i < ops.size := (Array.getElem?_eq_some_iff.1 ho).1
  refine ⟨by simpa using hi, ?_⟩
  rw [Bool.and_eq_true, ho]
  refine ⟨by simp [h.mine], ?_⟩
  simp only [Option.map_some, Option.getD_some]
  rw [Array.all_eq_true_iff_forall_mem]
  intro e he
  by_cases hb : Region.binds md e = true
  · rw [h.ahead e he hb]; simp
  · simp [Bool.eq_false_iff.2 hb]

theorem count_set_true : ∀ (l : List Bool) (i : Nat) (h : i < l.length), l[i] = false → l.count false = (l.set i true).count false + 1
  | [], i, h, _ => absurd h (by simp)
  | x :: l, 0, _, hx => by
    have hx' : x = false := hx
    subst hx'
    simp
  | x :: l, i + 1, h, hx => by
    have := count_set_true l i (by simpa using h) hx
    simp only [List.set_cons_succ, List.count_cons, this]
    omega

def left (listed : Array Bool) : Nat := listed.toList.count false

theorem left_set {listed : Array Bool} {i : Nat} (h : listed.getD i true = false) : left listed = left (listed.setIfInBounds i true) + 1 := by
  have hi : i < listed.size := by
    rcases Nat.lt_or_ge i listed.size with h1 | h1
    · exact h1
    · simp [Array.getD, Nat.not_lt.2 h1] at h
  have hv : listed.toList[i]'(by simpa using hi) = false := by simpa [Array.getD, hi] using h
  unfold left
  rw [Array.toList_setIfInBounds]
  exact count_set_true _ i (by simpa using hi) hv

/-- All have come up where none may. -/
theorem all_listed {listed : Array Bool} (hs : listed.size = ops.size) (hac : ∀ (i : Nat) (o : Oper), ops[i]? = some o → ∀ e ∈ o.after, Region.binds md e = true → e.on < i) (h : Region.ready md ops listed = []) : ∀ i, i < ops.size → listed.getD i false = true := by
  intro i
  induction i using Nat.strongRecOn with
  | _ i ih =>
    intro hi
    rcases Bool.eq_false_or_eq_true (listed.getD i false) with h1 | h1
    · exact h1
    · exfalso
      have hm : listed.getD i true = false := by simpa [Array.getD, hs, hi] using h1
      have : i ∈ Region.ready md ops listed := ready_of (Array.getElem?_eq_getElem hi) ⟨hm, fun e he hb => ih e.on (hac i _ (Array.getElem?_eq_getElem hi) e he hb) (Nat.lt_trans (hac i _ (Array.getElem?_eq_getElem hi) e he hb) hi)⟩
      rw [h] at this
      simp at this

theorem wpAny_inv (I : Array Bool → Act → World → Prop) (hac : ∀ (i : Nat) (o : Oper), ops[i]? = some o → ∀ e ∈ o.after, Region.binds md e = true → e.on < i) (hg : ∀ (i : Nat) (o : Oper), ops[i]? = some o → o.guard = none)
    (step : ∀ listed a w i o, I listed a w → ops[i]? = some o → Rdy md listed i o → o.wp P a w (fun a' w' => I (listed.setIfInBounds i true) a' w') Q)
    (fin : ∀ listed a w, I listed a w → (∀ i, i < ops.size → listed.getD i false = true) → Q .normal a w) :
    ∀ fuel listed a w, listed.size = ops.size → left listed = fuel → I listed a w → wpAny P md ops Q fuel listed a w := by
  intro fuel
  induction fuel with
  | zero =>
    intro listed a w hs hl hI
    have hr : Region.ready md ops listed = [] := by
      rw [List.eq_nil_iff_forall_not_mem]
      intro i hi
      obtain ⟨o, ho, hlt, hrd⟩ := ready_iff hi
      have := left_set hrd.mine
      omega
    exact ⟨hr, fin listed a w hI (all_listed hs hac hr)⟩
  | succ fuel ih =>
    intro listed a w hs hl hI
    refine ⟨fun hr => fin listed a w hI (all_listed hs hac hr), fun i hi => ?_⟩
    obtain ⟨o, ho, hlt, hrd⟩ := ready_iff hi
    have hwant : Region.wanted o (yielded ops a.tmps) = true := by simp [Region.wanted, hg i o ho]
    unfold wpOp
    rw [ho]
    simp only [hwant, if_true]
    left
    refine Oper.wp_mono (fun a' w' h => ?_) (step listed a w i o hI ho hrd)
    exact ih _ a' w' (by simpa using hs) (by have := left_set hrd.mine; omega) h

/-- A region that draws, by an invariant. -/
theorem wp_region_inv {id : Nat} {a : Act} {w : World} (hm : P.follows .mixedOrders = true) (I : Array Bool → Act → World → Prop) (hac : ∀ (i : Nat) (o : Oper), ops[i]? = some o → ∀ e ∈ o.after, Region.binds .any e = true → e.on < i) (hg : ∀ (i : Nat) (o : Oper), ops[i]? = some o → o.guard = none)
    (start : I (Array.replicate ops.size false) a w.drew)
    (step : ∀ listed a w i o, I listed a w → ops[i]? = some o → Rdy .any listed i o → o.wp P a w (fun a' w' => I (listed.setIfInBounds i true) a' w') Q)
    (fin : ∀ listed a w, I listed a w → (∀ i, i < ops.size → listed.getD i false = true) → Q .normal a w) : (Code.region id ops true).wp P Q a w :=
  wp_region_any hm (wpAny_inv I hac hg step fin _ _ a _ (by simp) (by simp [left]) start)
end

end Go.Proofs.Ytgeoffpcmkofkaa
