/- Wg; Wh; Wi; Geo; Wj; Fo: texts laid into one. -/
import Derived.Test.YtgeoffpcmkofkaaRad
import Derived.Test.YtgeoffpcmkofkaaRac
import Derived.Deep.QuietTactic
import Derived.BigQuiet
/- The walks of package side: 'roughApart', 'signBeyond', 'roughSide'. -/
namespace Go.Proofs.Ytgeoffpcmkofkaa
open Go.RowKit Fl
set_option maxRecDepth 100000

theorem New.refl (w : World) : New w w := World.grownBy.refl w none
theorem New.alloc (w : World) (o : Obj) : New w (w.alloc o) := World.grownBy_alloc w o none
theorem New.alloc' {w w1 : World} (h : New w w1) (o : Obj) : New w (w1.alloc o) := h.trans' (New.alloc w1 o)
theorem New.drewN {w w1 : World} (h : New w w1) (n : Nat) : New w (w1.drewN n) := ⟨h.os, h.tape, h.output, h.size, h.block⟩

/-- A coordinate. -/
def Cd (n : Int) : Prop := -9007199254740992 ≤ n ∧ n ≤ 9007199254740992

theorem Cd.co {n : Int} (h : Cd n) : Co (floatOfInt .f64 n, n) := by
  have h1 : (n.natAbs : Int) ≤ 9007199254740992 := by have := h.1; have := h.2; omega
  have e : (2 : Int) ^ 53 = 9007199254740992 := by decide
  exact ⟨F.ofInt n (by rw [e]; exact h1), h1⟩

set_option maxHeartbeats 400000 in
theorem roughApart_walk (px py fx fy : Int) (rx ry : Nat) (w : World) (h1 : Ieee.double.sub (floatOfInt .f64 px) (floatOfInt .f64 fx) = some rx) (h2 : Ieee.double.sub (floatOfInt .f64 py) (floatOfInt .f64 fy) = some ry) :
    Calls Try.prog 72 #[.agg #[.int .i64 px, .int .i64 py], .agg #[.int .i64 fx, .int .i64 fy]] w fun e w' => e = .returned (.tuple #[.float .f64 rx, .float .f64 ry]) ∧ New w w' := by
  have g1 := fsub h1 81
  have g2 := fsub h2 81
  clear h1 h2
  go_enter Try.func72, Try.ntmps72
  go_wp2
  go_quiet (fail)
  go_wp2
  go_ret2
  exact ⟨rfl, by
    refine New.drewN ?_ _
    exact (New.alloc _ _).alloc' _⟩

/-- A difference, rounded. -/
structure Df (X : Int) (r : Nat × Int) : Prop where
  word : F r.1 r.2 0
  rnd : Rnd X r.2
  small : (r.2.natAbs : Int) ≤ 36028797018963968

theorem df_of {p f : Int} (hp : Cd p) (hf : Cd f) : ∃ r : Nat × Int, Ieee.double.sub (floatOfInt .f64 p) (floatOfInt .f64 f) = some r.1 ∧ Df (p - f) r := by
  have h0 : (36028797018963968 : Int) < Big := Int.lt_trans (show (36028797018963968 : Int) < 2 ^ 56 by decide) (p2_lt_Big (by omega))
  have hs : ((p - f).natAbs : Int) ≤ 18014398509481984 := by have := hp.1; have := hp.2; have := hf.1; have := hf.2; omega
  obtain ⟨r, z, e1, q1, f1⟩ := hp.co.word.sub hf.co.word (by omega) (by simp only; omega)
  exact ⟨(r, z), e1, f1, q1, by have := q1.bd hs; simp only; omega⟩

theorem roughApart_any (px py fx fy : Int) (w : World) (h1 : Cd px) (h2 : Cd py) (h3 : Cd fx) (h4 : Cd fy) :
    Calls Try.prog 72 #[.agg #[.int .i64 px, .int .i64 py], .agg #[.int .i64 fx, .int .i64 fy]] w fun e w' => ∃ rx ry : Nat × Int, e = .returned (.tuple #[.float .f64 rx.1, .float .f64 ry.1]) ∧ Hid (New w w' ∧ Df (px - fx) rx ∧ Df (py - fy) ry) := by
  obtain ⟨rx, e1, d1⟩ := df_of h1 h3
  obtain ⟨ry, e2, d2⟩ := df_of h2 h4
  refine (roughApart_walk px py fx fy rx.1 ry.1 w e1 e2).mono ?_
  rintro e w' ⟨rfl, hn⟩
  exact ⟨rx, ry, rfl, hn, d1, d2⟩

theorem order_of {a b : Nat} {x y : Int} {k : Nat} (ha : F a x k) (hb : F b y k) : FloatKind.f64.format.order a b = some (compare x y) := ha.order hb

set_option maxHeartbeats 400000 in
theorem signBeyond_any (v s : Nat) (x S : Int) (c : Nat) (w : World) (hv : F v x 0) (hs : F s S c) :
    Calls Try.prog 73 #[.float .f64 v, .float .f64 s] w fun e w' => ∃ (sg : Int) (b : Bool), e = .returned (.tuple #[.int .i64 sg, .bool b]) ∧ w = w' ∧ Hid (b = true → (sg = 1 ∧ S < x * 2 ^ c) ∨ (sg = -1 ∧ x * 2 ^ c < -S)) := by
  have hx : F v (x * 2 ^ c) c := by have := hv.scale c; rwa [Nat.zero_add] at this
  have o1 := order_of hx hs
  have o2 := order_of hx hs.neg
  have hng := fneg
  clear hv hs hx
  by_cases h1 : S < x * 2 ^ c
  · have t1 : (FloatKind.f64.format.order v s == some .gt) = true := by rw [o1, Int.compare_eq_gt.2 h1]; rfl
    clear o1 o2
    have H1 : Hid (S < x * 2 ^ c) := h1
    clear h1
    go_enter Try.func73, Try.ntmps73
    go_wp2
    go_ret2
    exact ⟨1, true, rfl, rfl, fun _ => Or.inl ⟨rfl, H1.out⟩⟩
  · have t1 : (FloatKind.f64.format.order v s == some .gt) = false := by
      rw [o1]
      have : compare (x * 2 ^ c) S ≠ .gt := fun h => h1 (Int.compare_eq_gt.1 h)
      cases h : compare (x * 2 ^ c) S <;> simp_all
    by_cases h2 : x * 2 ^ c < -S
    · have t2 : (FloatKind.f64.format.order v (ng s) == some .lt) = true := by rw [o2, Int.compare_eq_lt.2 h2]; rfl
      have H2 : Hid (x * 2 ^ c < -S) := h2
      clear o1 o2 h1 h2
      go_enter Try.func73, Try.ntmps73
      go_wp2
      go_ret2
      exact ⟨-1, true, rfl, rfl, fun _ => Or.inr ⟨rfl, H2.out⟩⟩
    · have t2 : (FloatKind.f64.format.order v (ng s) == some .lt) = false := by
        rw [o2]
        have : compare (x * 2 ^ c) (-S) ≠ .lt := fun h => h2 (Int.compare_eq_lt.1 h)
        cases h : compare (x * 2 ^ c) (-S) <;> simp_all
      clear o1 o2 h1 h2
      go_enter Try.func73, Try.ntmps73
      go_wp2
      go_ret2
      exact ⟨0, false, rfl, rfl, fun h => absurd h (by simp)⟩

end Go.Proofs.Ytgeoffpcmkofkaa
/- The walks of package side: 'roughSide', 'exactSide', 'Of'. -/
namespace Go.Proofs.Ytgeoffpcmkofkaa
open Go.RowKit Fl
set_option maxRecDepth 100000

theorem New.rule {W w1 : World} (h : New W w1) : ∀ b o, b < W.heap.size → w1.cell? ⟨b, o, none⟩ = W.cell? ⟨b, o, none⟩ :=
  fun b o hb => World.cell?_of_block (a := ⟨b, o, none⟩) (h.block b hb (by simp))

/-- The number whose sign is the side. -/
def det (ax ay bx by' cx cy : Int) : Int := (bx - ax) * (cy - ay) - (by' - ay) * (cx - ax)

theorem slack50 : F 4382002437431492608 1 50 := by
  refine ⟨by decide, ?_⟩
  have e : Ieee.double.read 4382002437431492608 = .number false 4503599627370496 (-102) := by decide
  rw [e]
  exact Is.mk (u := 0) (v := 52) (by decide) (by decide)

theorem slack49 : F 4386506037058863104 1 49 := by
  refine ⟨by decide, ?_⟩
  have e : Ieee.double.read 4386506037058863104 = .number false 4503599627370496 (-101) := by decide
  rw [e]
  exact Is.mk (u := 0) (v := 52) (by decide) (by decide)

theorem small_Big {x : Int} {k : Nat} (h : (x.natAbs : Int) ≤ 2 ^ k) (hk : k < 900) : (x.natAbs : Int) < Big := Int.lt_of_le_of_lt h (p2_lt_Big hk)

theorem mul_le_p2 {x y : Int} {j k : Nat} (hx : (x.natAbs : Int) ≤ 2 ^ j) (hy : (y.natAbs : Int) ≤ 2 ^ k) : ((x * y).natAbs : Int) ≤ 2 ^ (j + k) := by
  rw [Int.natAbs_mul, Int.natCast_mul, p2_add]
  exact Int.mul_le_mul hx hy (by omega) (by have := p2_pos j; omega)

theorem Df.p2 {X : Int} {r : Nat × Int} (h : Df X r) : (r.2.natAbs : Int) ≤ 2 ^ 55 := by
  have e : (2 : Int) ^ 55 = 36028797018963968 := by decide
  rw [e]; exact h.small

theorem rnd_p2 {x z : Int} {k : Nat} (h : Rnd x z) (hx : (x.natAbs : Int) ≤ 2 ^ k) : (z.natAbs : Int) ≤ 2 ^ k := by
  have h1 := h.le (Rep.p2 k) (by omega)
  have h2 := h.ge (Rep.p2 k).neg (by omega)
  omega

theorem add_le_p2 {x y : Int} {k : Nat} (hx : (x.natAbs : Int) ≤ 2 ^ k) (hy : (y.natAbs : Int) ≤ 2 ^ k) : ((x + y).natAbs : Int) ≤ 2 ^ (k + 1) := by
  rw [p2_succ]; omega
theorem sub_le_p2 {x y : Int} {k : Nat} (hx : (x.natAbs : Int) ≤ 2 ^ k) (hy : (y.natAbs : Int) ≤ 2 ^ k) : ((x - y).natAbs : Int) ≤ 2 ^ (k + 1) := by
  rw [p2_succ]; omega

/-- All words of 'roughSide', and that its answer is right where it is sure. -/
theorem roughSide_words {A B C D : Int} {bx by' cx cy : Nat × Int} (h1 : Df A bx) (h2 : Df B by') (h3 : Df C cx) (h4 : Df D cy) :
    ∃ (l r d t s : Nat) (zd S : Int), Ieee.double.mul bx.1 cy.1 = some l ∧ Ieee.double.mul by'.1 cx.1 = some r ∧ Ieee.double.sub l r = some d ∧ Ieee.double.add (ab l) (ab r) = some t ∧ Ieee.double.mul 4382002437431492608 t = some s ∧
      l < 2 ^ 64 ∧ r < 2 ^ 64 ∧ F d zd 0 ∧ F s S 50 ∧ (S < zd * 2 ^ 50 → 0 < A * D - B * C) ∧ (zd * 2 ^ 50 < -S → A * D - B * C < 0) := by
  have b1 := mul_le_p2 h1.p2 h4.p2
  have b2 := mul_le_p2 h2.p2 h3.p2
  obtain ⟨l, zl, e1, q1, f1⟩ := h1.word.mul h4.word (by omega) (small_Big b1 (by omega))
  obtain ⟨r, zr, e2, q2, f2⟩ := h2.word.mul h3.word (by omega) (small_Big b2 (by omega))
  have c1 := rnd_p2 q1 b1
  have c2 := rnd_p2 q2 b2
  have b3 := sub_le_p2 c1 c2
  obtain ⟨d, zd, e3, q3, f3⟩ := f1.sub f2 (by omega) (small_Big b3 (by omega))
  have b4 : (((zl.natAbs : Int) + (zr.natAbs : Int)).natAbs : Int) ≤ 2 ^ (55 + 55 + 1) := add_le_p2 (by simpa using c1) (by simpa using c2)
  obtain ⟨t, zt, e4, q4, f4⟩ := f1.abs.add f2.abs (by omega) (small_Big b4 (by omega))
  have c4 := rnd_p2 q4 b4
  obtain ⟨s, zs, e5, q5, f5⟩ := slack50.mul f4 (by omega) (by rw [Int.one_mul]; exact small_Big c4 (by omega))
  rw [Int.one_mul] at q5
  have hzs := q5.exact q4.rep
  subst hzs
  have E1 : E (A * D) zl zl.natAbs 391 := (((E.rnd h1.rnd).mul (E.rnd h4.rnd) (by omega) (by omega) (by omega) (by omega)).round q1 (by rw [Int.natAbs_mul, Int.natCast_mul]) (by omega) (by omega)).mono (by omega)
  have E2 : E (B * C) zr zr.natAbs 391 := (((E.rnd h2.rnd).mul (E.rnd h3.rnd) (by omega) (by omega) (by omega) (by omega)).round q2 (by rw [Int.natAbs_mul, Int.natCast_mul]) (by omega) (by omega)).mono (by omega)
  have E3 := (E1.sub E2).roundS q3 (by omega) (by omega)
  have G1 := G.rnd q4 (by omega)
  have e50 : (2 : Int) ^ 50 = 1125899906842624 := by decide
  have hs := sign_sure (m := 2 ^ 50) E3 G1 (by omega) (by omega) e50
  exact ⟨l, r, d, t, s, zd, zs, e1, e2, e3, e4, e5, f1.1, f2.1, f3, f5, hs.1, hs.2⟩

set_option maxHeartbeats 800000 in
theorem roughSide_any (ax ay bx by' cx cy : Int) (w : World) (h1 : Cd ax) (h2 : Cd ay) (h3 : Cd bx) (h4 : Cd by') (h5 : Cd cx) (h6 : Cd cy) :
    Calls Try.prog 56 #[.agg #[.int .i64 ax, .int .i64 ay], .agg #[.int .i64 bx, .int .i64 by'], .agg #[.int .i64 cx, .int .i64 cy]] w fun e w' =>
      ∃ (sg : Int) (b : Bool), e = .returned (.tuple #[.int .i64 sg, .bool b]) ∧ Hid (New w w' ∧ (b = true → sg = sgn (det ax ay bx by' cx cy))) := by
  go_enter Try.func56, Try.ntmps56
  go_wp2_with fail
  refine (roughApart_any bx by' ax ay _ h3 h4 h1 h2).mono ?_
  rintro e w1 ⟨rbx, rby, rfl, H1⟩
  have r1 := H1.out.1.rule
  go_wp2_with fail
  refine (roughApart_any cx cy ax ay _ h5 h6 h1 h2).mono ?_
  rintro e w2 ⟨rcx, rcy, rfl, H2⟩
  obtain ⟨l, r, d, t, s, zd, S, e1, e2, e3, e4, e5, hl, hr, fd, fs, k1, k2⟩ := roughSide_words H1.out.2.1 H1.out.2.2 H2.out.2.1 H2.out.2.2
  have HK : Hid ((S < zd * 2 ^ 50 → 0 < det ax ay bx by' cx cy) ∧ (zd * 2 ^ 50 < -S → det ax ay bx by' cx cy < 0) ∧ New w w2) := ⟨k1, k2, ((((New.alloc _ _).alloc' _).alloc' _).trans' H1.out.1).trans' H2.out.1⟩
  have g1 := fmul e1 81
  have g2 := fmul e2 81
  have g3 := fsub e3 81
  have g4 := fadd e4 81
  have g5 := fmul e5 81
  clear k1 k2 e1 e2 e3 e4 e5 r1 H1 H2
  go_wp2_with fail
  refine (abs_walk l _ hl).mono ?_
  rintro e w3 ⟨rfl, rfl⟩
  go_wp2_with fail
  refine (abs_walk r _ hr).mono ?_
  rintro e w4 ⟨rfl, rfl⟩
  go_wp2_with fail
  refine (signBeyond_any d s zd S 50 _ fd fs).mono ?_
  rintro e w5 ⟨sg, b, rfl, rfl, H5⟩
  go_wp2_with fail
  go_ret2
  refine ⟨sg, b, rfl, HK.out.2.2, fun hb => ?_⟩
  rcases H5.out hb with ⟨rfl, h⟩ | ⟨rfl, h⟩
  · have := HK.out.1 h
    unfold sgn; rw [if_neg (by omega), if_neg (by omega)]
  · have := HK.out.2.1 h
    unfold sgn; rw [if_pos this]

end Go.Proofs.Ytgeoffpcmkofkaa
/- Expansions as numbers; the walks of package side: 'exactApart', 'exactSide', 'Of'. -/
namespace Go.Proofs.Ytgeoffpcmkofkaa
open Go.RowKit Fl
set_option maxRecDepth 100000

/-- At the head of block g lies the number v, in at most n parts, whose mass is at most 2 ^ m. -/
structure Nm (w : World) (g cap : Nat) (ws : Ws) (v : Int) (m n : Nat) : Prop where
  lst : Lst w g cap ws
  tot : total (vals ws) = v
  mass : mass (vals ws) ≤ 2 ^ m
  len : ws.length ≤ n

theorem Nm.kept {w w' : World} {g cap : Nat} {ws : Ws} {v : Int} {m n : Nat} (h : Nm w g cap ws v m n) (hn : New w w') : Nm w' g cap ws v m n :=
  ⟨h.lst.kept hn (by simp), h.tot, h.mass, h.len⟩

theorem times_nm {w : World} {g1 c1 g2 c2 : Nat} {e f : Ws} {u v : Int} {a b n m : Nat} (h1 : Nm w g1 c1 e u a n) (h2 : Nm w g2 c2 f v b m) (hnm : n * m ≤ 1024) (h40 : 40 ≤ a + b) (h800 : a + b ≤ 800) :
    Calls Try.prog 76 #[.slice (some ⟨g1, 0, none⟩) e.length c1, .slice (some ⟨g2, 0, none⟩) f.length c2] w fun e' w' =>
      ∃ (g3 cap : Nat) (out : Ws), e' = .returned (.slice (some ⟨g3, 0, none⟩) out.length cap) ∧ Hid (Nm w' g3 cap out (u * v) (a + b + 1) (2 * (n * m)) ∧ w.heap.size ≤ g3 ∧ New w w') := by
  obtain ⟨K, hK⟩ : ∃ K, a + b = 40 + K := ⟨a + b - 40, by omega⟩
  have hc : e.length * f.length ≤ n * m := Nat.mul_le_mul h1.len h2.len
  have hp := p2_pos K
  have hab : Fl.mass (vals e) * Fl.mass (vals f) ≤ 1099511627776 * 2 ^ K := by
    have : (2 : Int) ^ (a + b) = 1099511627776 * 2 ^ K := by rw [hK, p2_add]; rfl
    rw [← this, p2_add]
    exact Int.mul_le_mul h1.mass h2.mass (mass_nonneg _) (by have := p2_pos a; omega)
  have hC : ((e.length * f.length : Nat) : Int) * (4 * (e.length * f.length : Nat) + 1) * 2 ^ K ≤ 8388608 * 2 ^ K := by
    refine Int.mul_le_mul_of_nonneg_right ?_ (by omega)
    have : ((e.length * f.length : Nat) : Int) * (4 * (e.length * f.length : Nat) + 1) ≤ 1024 * 4097 := Int.mul_le_mul (by omega) (by omega) (by omega) (by omega)
    omega
  have e52 : (2 : Int) ^ 52 = 4503599627370496 := by decide
  have hpre : MulPre e f K := ⟨h1.lst.words, h2.lst.words, h1.lst.ex, h2.lst.ex, by omega, by omega, by rw [e52]; omega⟩
  refine (times_any g1 c1 g2 c2 e f K w h1.lst h2.lst hpre).mono ?_
  rintro e' w' ⟨g3, cap, out, rfl, H⟩
  refine ⟨g3, cap, out, rfl, ⟨H.out.1, ?_, ?_, ?_⟩, H.out.2.1, H.out.2.2.1⟩
  · have := H.out.2.2.2.tot
    rw [List.take_length, Int.zero_mul, Int.add_zero, h1.tot, h2.tot] at this
    exact this
  · have := H.out.2.2.2.bound
    rw [List.take_length] at this
    simp only [List.take_zero, vals, List.map_nil, Fl.mass, Int.natAbs_zero, Nat.add_zero] at this hab ⊢
    have e1 : (2 : Int) ^ (a + b + 1) = 2199023255552 * 2 ^ K := by rw [p2_succ, hK, p2_add]; grind
    rw [e1]
    omega
  · have := H.out.2.2.2.len
    omega

theorem addinv_nm {σ : Int} {w' : World} {g3 cap : Nat} {e f out : Ws} {K a : Nat} (hl : Lst w' g3 cap out) (ha : AddInv σ e f K f.length out) {u v : Int} {n m : Nat} (hu : total (vals e) = u) (hv : total (vals f) = v) (hme : mass (vals e) ≤ 2 ^ a) (hmf : mass (vals f) ≤ 2 ^ a)
    (hn : e.length ≤ n) (hm : f.length ≤ m) (hnm : n + m ≤ 4096) (hK : a = 30 + K) : Nm w' g3 cap out (u + σ * v) (a + 2) (n + m) := by
  refine ⟨hl, ?_, ?_, ?_⟩
  · rw [ha.tot, List.take_length, hu, hv]
  · have hb := ha.bound
    rw [List.drop_length] at hb
    simp only [vals, List.map_nil, Fl.mass] at hb hme hmf ⊢
    have hp := p2_pos K
    have e1 : (2 : Int) ^ a = 1073741824 * 2 ^ K := by rw [hK, p2_add]; rfl
    have e2 : (2 : Int) ^ (a + 2) = 4294967296 * 2 ^ K := by rw [p2_succ, p2_succ, e1]; grind
    have h3 : (f.length : Int) * (e.length + f.length) * 2 ^ K ≤ 16777216 * 2 ^ K := by
      refine Int.mul_le_mul_of_nonneg_right ?_ (by omega)
      have : (f.length : Int) * (e.length + f.length) ≤ 4096 * 4096 := Int.mul_le_mul (by omega) (by omega) (by omega) (by omega)
      omega
    rw [e1] at hme hmf
    rw [e2]
    omega
  · have := ha.len
    omega

theorem add_fits {e f : Ws} {K a n m : Nat} (hme : mass (vals e) ≤ 2 ^ a) (hmf : mass (vals f) ≤ 2 ^ a) (hn : e.length ≤ n) (hm : f.length ≤ m) (hnm : n + m ≤ 4096) (hK : a = 30 + K) :
    mass (vals e) + mass (vals f) + f.length * (e.length + f.length) * 2 ^ K ≤ 2 ^ 52 * 2 ^ K := by
  have hp := p2_pos K
  have e1 : (2 : Int) ^ a = 1073741824 * 2 ^ K := by rw [hK, p2_add]; rfl
  have e52 : (2 : Int) ^ 52 = 4503599627370496 := by decide
  have h3 : (f.length : Int) * (e.length + f.length) * 2 ^ K ≤ 16777216 * 2 ^ K := by
    refine Int.mul_le_mul_of_nonneg_right ?_ (by omega)
    have : (f.length : Int) * (e.length + f.length) ≤ 4096 * 4096 := Int.mul_le_mul (by omega) (by omega) (by omega) (by omega)
    omega
  rw [e1] at hme hmf
  rw [e52]
  omega

theorem plus_nm {w : World} {g1 c1 g2 c2 : Nat} {e f : Ws} {u v : Int} {a n m : Nat} (h1 : Nm w g1 c1 e u a n) (h2 : Nm w g2 c2 f v a m) (hnm : n + m ≤ 4096) (h30 : 30 ≤ a) (h800 : a ≤ 800) :
    Calls Try.prog 83 #[.slice (some ⟨g1, 0, none⟩) e.length c1, .slice (some ⟨g2, 0, none⟩) f.length c2] w fun e' w' =>
      ∃ (g3 cap : Nat) (out : Ws), e' = .returned (.slice (some ⟨g3, 0, none⟩) out.length cap) ∧ Hid (Nm w' g3 cap out (u + v) (a + 2) (n + m) ∧ w.heap.size ≤ g3 ∧ New w w') := by
  obtain ⟨K, hK⟩ : ∃ K, a = 30 + K := ⟨a - 30, by omega⟩
  have hn := h1.len
  have hm := h2.len
  refine (plus_any g1 c1 g2 c2 e f K w h1.lst h2.lst (by omega) (by omega) (add_fits h1.mass h2.mass h1.len h2.len hnm hK)).mono ?_
  rintro e' w' ⟨g3, out, rfl, H⟩
  refine ⟨g3, _, out, rfl, ?_, H.out.2.1, H.out.2.2.1⟩
  have := addinv_nm H.out.1 H.out.2.2.2 h1.tot h2.tot h1.mass h2.mass h1.len h2.len hnm hK
  rwa [Int.one_mul] at this

theorem minus_nm {w : World} {g1 c1 g2 c2 : Nat} {e f : Ws} {u v : Int} {a n m : Nat} (h1 : Nm w g1 c1 e u a n) (h2 : Nm w g2 c2 f v a m) (hnm : n + m ≤ 4096) (h30 : 30 ≤ a) (h800 : a ≤ 800) :
    Calls Try.prog 77 #[.slice (some ⟨g1, 0, none⟩) e.length c1, .slice (some ⟨g2, 0, none⟩) f.length c2] w fun e' w' =>
      ∃ (g3 cap : Nat) (out : Ws), e' = .returned (.slice (some ⟨g3, 0, none⟩) out.length cap) ∧ Hid (Nm w' g3 cap out (u - v) (a + 2) (n + m) ∧ w.heap.size ≤ g3 ∧ New w w') := by
  obtain ⟨K, hK⟩ : ∃ K, a = 30 + K := ⟨a - 30, by omega⟩
  have hn := h1.len
  have hm := h2.len
  refine (minus_any g1 c1 g2 c2 e f K w h1.lst h2.lst (by omega) (by omega) (add_fits h1.mass h2.mass h1.len h2.len hnm hK)).mono ?_
  rintro e' w' ⟨g3, out, rfl, H⟩
  refine ⟨g3, _, out, rfl, ?_, H.out.2.1, H.out.2.2.1⟩
  have := addinv_nm H.out.1 H.out.2.2.2 h1.tot h2.tot h1.mass h2.mass h1.len h2.len hnm hK
  have e1 : u + -1 * v = u - v := by omega
  rwa [e1] at this

theorem difference_nm (a b : Nat × Int) (w : World) (ha : Co a) (hb : Co b) :
    Calls Try.prog 94 #[.float .f64 a.1, .float .f64 b.1] w fun e w' =>
      ∃ (g : Nat) (out : Ws), e = .returned (.slice (some ⟨g, 0, none⟩) out.length 2) ∧ Hid (Nm w' g 2 out (a.2 - b.2) 55 2 ∧ w.heap.size ≤ g ∧ New w w') := by
  refine (difference_any a b w ha hb).mono ?_
  rintro e' w' ⟨g, out, rfl, H⟩
  exact ⟨g, out, rfl, ⟨H.out.1, H.out.2.2.2.1, H.out.2.2.2.2, H.out.1.le⟩, H.out.2.1, H.out.2.2.1⟩

set_option maxHeartbeats 400000 in
theorem exactApart_any (px py fx fy : Int) (w : World) (h1 : Cd px) (h2 : Cd py) (h3 : Cd fx) (h4 : Cd fy) :
    Calls Try.prog 75 #[.agg #[.int .i64 px, .int .i64 py], .agg #[.int .i64 fx, .int .i64 fy]] w fun e w' =>
      ∃ (g1 g2 : Nat) (X Y : Ws), e = .returned (.tuple #[.slice (some ⟨g1, 0, none⟩) X.length 2, .slice (some ⟨g2, 0, none⟩) Y.length 2]) ∧ Hid (Nm w' g1 2 X (px - fx) 55 2 ∧ Nm w' g2 2 Y (py - fy) 55 2 ∧ w.heap.size ≤ g1 ∧ w.heap.size ≤ g2 ∧ New w w') := by
  go_enter Try.func75, Try.ntmps75
  go_wp2_with fail
  refine (difference_nm (floatOfInt .f64 px, px) (floatOfInt .f64 fx, fx) _ h1.co h3.co).mono ?_
  rintro e w1 ⟨g1, X, rfl, H1⟩
  have r1 := H1.out.2.2.rule
  go_wp2_with fail
  refine (difference_nm (floatOfInt .f64 py, py) (floatOfInt .f64 fy, fy) _ h2.co h4.co).mono ?_
  rintro e w2 ⟨g2, Y, rfl, H2⟩
  have HN : Hid (New w w1 ∧ w.heap.size ≤ g1) := ⟨((New.alloc _ _).alloc' _).trans' H1.out.2.2, by have := H1.out.2.1; simp at this; omega⟩
  clear r1
  go_wp2_with fail
  go_ret2
  exact ⟨g1, g2, X, Y, rfl, H1.out.1.kept H2.out.2.2, H2.out.1, HN.out.2, Nat.le_trans HN.out.1.size H2.out.2.1, HN.out.1.trans' H2.out.2.2⟩

set_option maxHeartbeats 800000 in
theorem exactSide_any (ax ay bx by' cx cy : Int) (w : World) (h1 : Cd ax) (h2 : Cd ay) (h3 : Cd bx) (h4 : Cd by') (h5 : Cd cx) (h6 : Cd cy) :
    Calls Try.prog 57 #[.agg #[.int .i64 ax, .int .i64 ay], .agg #[.int .i64 bx, .int .i64 by'], .agg #[.int .i64 cx, .int .i64 cy]] w fun e w' =>
      e = .returned (.int .i64 (sgn (det ax ay bx by' cx cy))) ∧ Hid (New w w') := by
  go_enter Try.func57, Try.ntmps57
  go_wp2_with fail
  refine (exactApart_any bx by' ax ay _ h3 h4 h1 h2).mono ?_
  rintro e w1 ⟨g1, g2, X1, Y1, rfl, H1⟩
  have r1 := H1.out.2.2.2.2.rule
  go_wp2_with fail
  refine (exactApart_any cx cy ax ay _ h5 h6 h1 h2).mono ?_
  rintro e w2 ⟨g3, g4, X2, Y2, rfl, H2⟩
  have HN : Hid (New w w2) := ((((New.alloc _ _).alloc' _).alloc' _).trans' H1.out.2.2.2.2).trans' H2.out.2.2.2.2
  clear r1
  go_wp2_with fail
  refine (times_nm (H1.out.1.kept H2.out.2.2.2.2) H2.out.2.1 (by omega) (by omega) (by omega)).mono ?_
  rintro e w3 ⟨g5, c5, P, rfl, H3⟩
  go_wp2_with fail
  refine (times_nm ((H1.out.2.1.kept H2.out.2.2.2.2).kept H3.out.2.2) (H2.out.1.kept H3.out.2.2) (by omega) (by omega) (by omega)).mono ?_
  rintro e w4 ⟨g6, c6, Q, rfl, H4⟩
  go_wp2_with fail
  refine (minus_nm (H3.out.1.kept H4.out.2.2) H4.out.1 (by omega) (by omega) (by omega)).mono ?_
  rintro e w5 ⟨g7, c7, R, rfl, H5⟩
  go_wp2_with fail
  refine (sign_any g7 c7 R _ H5.out.1.lst).mono ?_
  rintro e w6 ⟨rfl, rfl⟩
  go_wp2_with fail
  go_ret
  exact ⟨by rw [H5.out.1.tot]; rfl, ((HN.out.trans' H3.out.2.2).trans' H4.out.2.2).trans' H5.out.2.2⟩

set_option maxHeartbeats 400000 in
theorem of_any (ax ay bx by' cx cy : Int) (w : World) (h1 : Cd ax) (h2 : Cd ay) (h3 : Cd bx) (h4 : Cd by') (h5 : Cd cx) (h6 : Cd cy) :
    Calls Try.prog 37 #[.agg #[.int .i64 ax, .int .i64 ay], .agg #[.int .i64 bx, .int .i64 by'], .agg #[.int .i64 cx, .int .i64 cy]] w fun e w' =>
      e = .returned (.int .i64 (sgn (det ax ay bx by' cx cy))) ∧ Hid (New w w') := by
  go_enter Try.func37, Try.ntmps37
  go_wp2_with fail
  refine (roughSide_any ax ay bx by' cx cy _ h1 h2 h3 h4 h5 h6).mono ?_
  rintro e w1 ⟨sg, b, rfl, H1⟩
  have r1 := H1.out.1.rule
  have HN : Hid (New w w1) := (((New.alloc _ _).alloc' _).alloc' _).trans' H1.out.1
  cases b with
  | true =>
    have hs := H1.out.2 rfl
    subst hs
    go_wp2_with fail
    go_ret
    exact ⟨rfl, HN.out⟩
  | false =>
    go_wp2_with fail
    refine (exactSide_any ax ay bx by' cx cy _ h1 h2 h3 h4 h5 h6).mono ?_
    rintro e w2 ⟨rfl, H2⟩
    clear r1
    go_wp2_with fail
    go_ret
    exact ⟨rfl, HN.out.trans' H2.out⟩

end Go.Proofs.Ytgeoffpcmkofkaa
/- Points, sides and segments over whole numbers: what two segments have in common, told twice, is the same. -/
namespace Go.Proofs.Ytgeoffpcmkofkaa
open Fl

abbrev Pt := Int × Int
/-- The determinant of three points. -/
def D (a b c : Pt) : Int := det a.1 a.2 b.1 b.2 c.1 c.2
def CdP (p : Pt) : Prop := Cd p.1 ∧ Cd p.2
/-- The place in the order by X, then Y. -/
def K (p : Pt) : Int := p.1 * 36028797018963968 + p.2
def btw (a b c : Int) : Prop := a ≤ c ∧ c ≤ b ∨ b ≤ c ∧ c ≤ a
def onP (a b p : Pt) : Prop := btw a.1 b.1 p.1 ∧ btw a.2 b.2 p.2 ∧ D a b p = 0

theorem sgn_cases (x : Int) : (x < 0 ∧ sgn x = -1) ∨ (x = 0 ∧ sgn x = 0) ∨ (0 < x ∧ sgn x = 1) := by
  unfold sgn
  rcases Int.lt_trichotomy x 0 with h | h | h
  · exact Or.inl ⟨h, by rw [if_pos h]⟩
  · exact Or.inr (Or.inl ⟨h, by rw [if_neg (by omega), if_pos h]⟩)
  · exact Or.inr (Or.inr ⟨h, by rw [if_neg (by omega), if_neg (by omega)]⟩)
theorem sgn_zero {x : Int} : sgn x = 0 ↔ x = 0 := by rcases sgn_cases x with h | h | h <;> omega
theorem sgn_pos {x : Int} : 0 < sgn x ↔ 0 < x := by rcases sgn_cases x with h | h | h <;> omega
theorem sgn_neg' {x : Int} : sgn x < 0 ↔ x < 0 := by rcases sgn_cases x with h | h | h <;> omega
theorem sgn_mul_pos {x y : Int} : 0 < sgn x * sgn y ↔ (0 < x ∧ 0 < y) ∨ (x < 0 ∧ y < 0) := by
  rcases sgn_cases x with ⟨h, e⟩ | ⟨h, e⟩ | ⟨h, e⟩ <;> rcases sgn_cases y with ⟨k, f⟩ | ⟨k, f⟩ | ⟨k, f⟩ <;> rw [e, f] <;> omega
theorem sgn_mul_neg {x y : Int} : sgn x * sgn y < 0 ↔ (0 < x ∧ y < 0) ∨ (x < 0 ∧ 0 < y) := by
  rcases sgn_cases x with ⟨h, e⟩ | ⟨h, e⟩ | ⟨h, e⟩ <;> rcases sgn_cases y with ⟨k, f⟩ | ⟨k, f⟩ | ⟨k, f⟩ <;> rw [e, f] <;> omega

theorem pt_ext {p q : Pt} (h1 : p.1 = q.1) (h2 : p.2 = q.2) : p = q := Prod.ext h1 h2
theorem K_inj {p q : Pt} (hp : CdP p) (hq : CdP q) (h : K p = K q) : p = q := by
  obtain ⟨⟨a, b⟩, c, d⟩ := hp
  obtain ⟨⟨a', b'⟩, c', d'⟩ := hq
  unfold K at h
  exact pt_ext (by omega) (by omega)
theorem K_le {p q : Pt} (hp : CdP p) (hq : CdP q) : K p ≤ K q ↔ p.1 < q.1 ∨ p.1 = q.1 ∧ p.2 ≤ q.2 := by
  obtain ⟨⟨a, b⟩, c, d⟩ := hp
  obtain ⟨⟨a', b'⟩, c', d'⟩ := hq
  unfold K
  omega

theorem mul_eq_zero' {x y : Int} (h : x * y = 0) (hx : x ≠ 0) : y = 0 := by
  rcases Int.mul_eq_zero.1 h with h | h
  · exact absurd h hx
  · exact h

/-- Three points in the line of two others lie in a line. -/
theorem line3 {a b x y z : Pt} (hab : a ≠ b) (hx : D a b x = 0) (hy : D a b y = 0) (hz : D a b z = 0) : D x y z = 0 := by
  unfold D det at *
  by_cases h1 : b.1 - a.1 = 0
  · have h2 : b.2 - a.2 ≠ 0 := fun h2 => hab (pt_ext (by omega) (by omega))
    apply mul_eq_zero' (x := b.2 - a.2) _ h2
    grind
  · apply mul_eq_zero' (x := b.1 - a.1) _ h1
    grind

/-- A point between two others. -/
def Mix (a b p : Pt) : Prop := ∃ l m : Int, 0 ≤ l ∧ 0 ≤ m ∧ 0 < l + m ∧ (l + m) * p.1 = l * a.1 + m * b.1 ∧ (l + m) * p.2 = l * a.2 + m * b.2

theorem Mix.lin {a b p : Pt} (h : Mix a b p) : ∃ l m : Int, 0 ≤ l ∧ 0 ≤ m ∧ 0 < l + m ∧ ∀ c d : Pt, (l + m) * D c d p = l * D c d a + m * D c d b := by
  obtain ⟨l, m, hl, hm, hs, e1, e2⟩ := h
  refine ⟨l, m, hl, hm, hs, fun c d => ?_⟩
  unfold D det
  grind

theorem Mix.btw1 {l m a b p : Int} (hl : 0 ≤ l) (hm : 0 ≤ m) (hs : 0 < l + m) (e : (l + m) * p = l * a + m * b) : btw a b p := by
  unfold btw
  rcases Int.le_total a b with h | h
  · left
    constructor
    · have : 0 ≤ (l + m) * (p - a) := by
        have e2 : (l + m) * (p - a) = m * (b - a) := by grind
        rw [e2]; exact Int.mul_nonneg hm (by omega)
      have := Int.nonneg_of_mul_nonneg_right this hs
      omega
    · have : 0 ≤ (l + m) * (b - p) := by
        have e2 : (l + m) * (b - p) = l * (b - a) := by grind
        rw [e2]; exact Int.mul_nonneg hl (by omega)
      have := Int.nonneg_of_mul_nonneg_right this hs
      omega
  · right
    constructor
    · have : 0 ≤ (l + m) * (p - b) := by
        have e2 : (l + m) * (p - b) = l * (a - b) := by grind
        rw [e2]; exact Int.mul_nonneg hl (by omega)
      have := Int.nonneg_of_mul_nonneg_right this hs
      omega
    · have : 0 ≤ (l + m) * (a - p) := by
        have e2 : (l + m) * (a - p) = m * (a - b) := by grind
        rw [e2]; exact Int.mul_nonneg hm (by omega)
      have := Int.nonneg_of_mul_nonneg_right this hs
      omega

theorem D_left (a b : Pt) : D a b a = 0 := by unfold D det; grind
theorem D_right (a b : Pt) : D a b b = 0 := by unfold D det; grind
theorem D_same (a p : Pt) : D a a p = 0 := by unfold D det; grind
theorem D_rot (a b c : Pt) : D b c a = D a b c := by unfold D det; grind
theorem D_swap (a b c : Pt) : D b a c = -D a b c := by unfold D det; grind

theorem Mix.on {a b p : Pt} (h : Mix a b p) : onP a b p := by
  have h' := h
  obtain ⟨l, m, hl, hm, hs, e1, e2⟩ := h
  refine ⟨btw1 hl hm hs e1, btw1 hl hm hs e2, ?_⟩
  unfold D det
  apply mul_eq_zero' (x := l + m) _ (by omega)
  grind

theorem onP.mix {a b p : Pt} (h : onP a b p) : Mix a b p := by
  obtain ⟨h1, h2, h3⟩ := h
  unfold D det at h3
  unfold btw at h1 h2
  by_cases e1 : a.1 = b.1
  · by_cases e2 : a.2 = b.2
    · exact ⟨1, 0, by omega, by omega, by omega, by omega, by omega⟩
    · have hp : p.1 = a.1 := by omega
      rcases Int.le_total a.2 b.2 with h | h
      · exact ⟨b.2 - p.2, p.2 - a.2, by omega, by omega, by omega, by rw [hp, ← e1]; grind, by grind⟩
      · exact ⟨p.2 - b.2, a.2 - p.2, by omega, by omega, by omega, by rw [hp, ← e1]; grind, by grind⟩
  · rcases Int.le_total a.1 b.1 with h | h
    · exact ⟨b.1 - p.1, p.1 - a.1, by omega, by omega, by omega, by grind, by grind⟩
    · exact ⟨p.1 - b.1, a.1 - p.1, by omega, by omega, by omega, by grind, by grind⟩

/-- On a segment: as the order tells it. -/
theorem holds_iff {a b p : Pt} (ha : CdP a) (hb : CdP b) (hp : CdP p) : onP a b p ↔ (K a ≤ K p ∧ K p ≤ K b ∨ K b ≤ K p ∧ K p ≤ K a) ∧ D a b p = 0 := by
  rw [K_le ha hp, K_le hp hb, K_le hb hp, K_le hp ha]
  constructor
  · rintro h
    refine ⟨?_, h.2.2⟩
    by_cases e1 : a.1 = b.1
    · have h1 := h.1
      have h2 := h.2.1
      unfold btw at h1 h2
      omega
    · obtain ⟨h1, h2, h3⟩ := h
      unfold D det at h3
      have k1 : p.1 = a.1 → p.2 = a.2 := by
        intro e
        have : (b.1 - a.1) * (p.2 - a.2) = 0 := by rw [e] at h3; grind
        have := mul_eq_zero' this (by omega)
        omega
      have k2 : p.1 = b.1 → p.2 = b.2 := by
        intro e
        have : (b.1 - a.1) * (p.2 - b.2) = 0 := by rw [e] at h3; grind
        have := mul_eq_zero' this (by omega)
        omega
      unfold btw at h1
      omega
  · rintro ⟨h, h3⟩
    by_cases e1 : a.1 = b.1
    · unfold onP btw
      refine ⟨by omega, by omega, h3⟩
    · apply Mix.on
      unfold D det at h3
      rcases Int.le_total a.1 b.1 with h' | h'
      · exact ⟨b.1 - p.1, p.1 - a.1, by omega, by omega, by omega, by grind, by grind⟩
      · exact ⟨p.1 - b.1, a.1 - p.1, by omega, by omega, by omega, by grind, by grind⟩

/-- Two points on the same side: nothing between them lies in the line. -/
theorem apart {a b c d p : Pt} (h : (0 < D a b c ∧ 0 < D a b d) ∨ (D a b c < 0 ∧ D a b d < 0)) (h1 : D a b p = 0) (h2 : onP c d p) : False := by
  obtain ⟨l, m, hl, hm, hs, e⟩ := h2.mix.lin
  have e := e a b
  rw [h1, Int.mul_zero] at e
  rcases h with ⟨p, q⟩ | ⟨p, q⟩
  · rcases (show 0 < l ∨ 0 < m by omega) with k | k
    · have := Int.mul_pos k p; have := Int.mul_nonneg hm (Int.le_of_lt q); omega
    · have := Int.mul_pos k q; have := Int.mul_nonneg hl (Int.le_of_lt p); omega
  · have e' : 0 = l * (- D a b c) + m * (- D a b d) := by grind
    rcases (show 0 < l ∨ 0 < m by omega) with k | k
    · have := Int.mul_pos k (show 0 < - D a b c by omega); have := Int.mul_nonneg hm (show 0 ≤ -D a b d by omega); omega
    · have := Int.mul_pos k (show 0 < - D a b d by omega); have := Int.mul_nonneg hl (show 0 ≤ -D a b c by omega); omega

/-- An end in the other's line, whose ends lie on both sides of it. -/
theorem touch {a b c d : Pt} (h0 : D a b c = 0) (hd : D a b d ≠ 0) (h1 : ¬(0 < D c d a ∧ 0 < D c d b)) (h2 : ¬(D c d a < 0 ∧ D c d b < 0)) : onP a b c := by
  have hne : ¬(D c d a = 0 ∧ D c d b = 0) := by
    rintro ⟨p, q⟩
    by_cases hcd : c = d
    · subst hcd; exact hd h0
    · exact hd (line3 hcd p q (D_right c d))
  apply Mix.on
  have i1 : (D c d a - D c d b) * c.1 = D c d a * b.1 - D c d b * a.1 := by unfold D det at *; grind
  have i2 : (D c d a - D c d b) * c.2 = D c d a * b.2 - D c d b * a.2 := by unfold D det at *; grind
  rcases (show (0 ≤ D c d a ∧ D c d b ≤ 0) ∨ (D c d a ≤ 0 ∧ 0 ≤ D c d b) by omega) with ⟨p, q⟩ | ⟨p, q⟩
  · exact ⟨-D c d b, D c d a, by omega, by omega, by omega, by grind, by grind⟩
  · exact ⟨D c d b, -D c d a, by omega, by omega, by omega, by grind, by grind⟩

instance (a b c : Int) : Decidable (btw a b c) := by unfold btw; infer_instance
instance (a b p : Pt) : Decidable (onP a b p) := by unfold onP; infer_instance
def onB (a b p : Pt) : Bool := decide (onP a b p)

/-- One more point that both segments have. -/
def bothStep (a b c d : Pt) (l : List Pt) (p : Pt) : List Pt := if (onB a b p && onB c d p) && l.all (fun q => !decide (q = p)) then l ++ [p] else l
def both (a b c d : Pt) : List Pt := [a, b, c, d].foldl (bothStep a b c d) []

def meetRef (a b c d : Pt) : Int :=
  if 1 < (both a b c d).length then 3
  else if (both a b c d).length = 1 then 2
  else if sgn (D a b c) * sgn (D a b d) < 0 ∧ sgn (D c d a) * sgn (D c d b) < 0 then 1 else 0

def lineN (a b c d : Pt) : Int :=
  if max (min (K a) (K b)) (min (K c) (K d)) < min (max (K a) (K b)) (max (K c) (K d)) then 3
  else if max (min (K a) (K b)) (min (K c) (K d)) = min (max (K a) (K b)) (max (K c) (K d)) then 2 else 0

def meetN (a b c d : Pt) : Int :=
  if D a b c = 0 ∧ D a b d = 0 ∧ D c d a = 0 ∧ D c d b = 0 then lineN a b c d
  else if 0 < sgn (D a b c) * sgn (D a b d) ∨ 0 < sgn (D c d a) * sgn (D c d b) then 0
  else if sgn (D a b c) * sgn (D a b d) < 0 ∧ sgn (D c d a) * sgn (D c d b) < 0 then 1 else 2

/-- All that lie on both. -/
def OnBoth (a b c d p : Pt) : Prop := onP a b p ∧ onP c d p

theorem bothStep_inv {a b c d : Pt} {l m : List Pt} {p : Pt} (h : ∀ q, q ∈ l ↔ q ∈ m ∧ OnBoth a b c d q) (hn : l.Nodup) :
    (∀ q, q ∈ bothStep a b c d l p ↔ q ∈ m ++ [p] ∧ OnBoth a b c d q) ∧ (bothStep a b c d l p).Nodup := by
  unfold bothStep
  by_cases h1 : onP a b p ∧ onP c d p
  · by_cases h2 : p ∈ l
    · have : l.all (fun q => !decide (q = p)) = false := by
        rw [Bool.eq_false_iff]; intro hh
        have := List.all_eq_true.1 hh p h2
        simp at this
      rw [this]
      simp only [Bool.and_false]
      refine ⟨fun q => ?_, hn⟩
      rw [if_neg (by simp)]
      rw [h, List.mem_append, List.mem_singleton]
      constructor
      · rintro ⟨x, y⟩; exact ⟨Or.inl x, y⟩
      · rintro ⟨x | x, y⟩
        · exact ⟨x, y⟩
        · subst x; exact ⟨((h _).1 h2).1, y⟩
    · have : l.all (fun q => !decide (q = p)) = true := by
        rw [List.all_eq_true]; intro q hq
        simp
        rintro rfl; exact h2 hq
      rw [this]
      have e1 : onB a b p = true := by simp [onB, h1.1]
      have e2 : onB c d p = true := by simp [onB, h1.2]
      simp only [e1, e2, Bool.and_true, if_true]
      refine ⟨fun q => ?_, ?_⟩
      · rw [List.mem_append, List.mem_append, List.mem_singleton, h]
        constructor
        · rintro (⟨x, y⟩ | x)
          · exact ⟨Or.inl x, y⟩
          · subst x; exact ⟨Or.inr rfl, h1⟩
        · rintro ⟨x | x, y⟩
          · exact Or.inl ⟨x, y⟩
          · exact Or.inr x
      · rw [List.nodup_append]
        refine ⟨hn, by simp, ?_⟩
        intro q hq r hr e
        simp at hr
        subst hr e
        exact h2 hq
  · have : (onB a b p && onB c d p) = false := by
      unfold onB
      rw [Bool.and_eq_false_iff, decide_eq_false_iff_not, decide_eq_false_iff_not]
      rcases Classical.em (onP a b p) with x | x
      · exact Or.inr fun y => h1 ⟨x, y⟩
      · exact Or.inl x
    rw [this, Bool.false_and, if_neg (by simp)]
    refine ⟨fun q => ?_, hn⟩
    rw [h, List.mem_append, List.mem_singleton]
    constructor
    · rintro ⟨x, y⟩; exact ⟨Or.inl x, y⟩
    · rintro ⟨x | x, y⟩
      · exact ⟨x, y⟩
      · subst x; exact absurd y h1

theorem both_inv (a b c d : Pt) : (∀ q, q ∈ both a b c d ↔ q ∈ [a, b, c, d] ∧ OnBoth a b c d q) ∧ (both a b c d).Nodup := by
  have h0 : ∀ q, q ∈ ([] : List Pt) ↔ q ∈ ([] : List Pt) ∧ OnBoth a b c d q := by simp
  have h1 := bothStep_inv (p := a) h0 (by simp)
  have h2 := bothStep_inv (p := b) h1.1 h1.2
  have h3 := bothStep_inv (p := c) h2.1 h2.2
  have h4 := bothStep_inv (p := d) h3.1 h3.2
  exact h4

theorem len_two {l : List Pt} {p q : Pt} (hp : p ∈ l) (hq : q ∈ l) (h : p ≠ q) : 1 < l.length := by
  match l, hp, hq with
  | [x], hp, hq => simp at hp hq; exact absurd (hp.trans hq.symm) h
  | x :: y :: l, _, _ => simp
theorem len_one {l : List Pt} {p : Pt} (hn : l.Nodup) (hp : p ∈ l) (h : ∀ q, q ∈ l → q = p) : l.length = 1 := by
  match l, hn, hp, h with
  | [x], _, _, _ => rfl
  | x :: y :: l, hn, _, h =>
    have e1 := h x (by simp)
    have e2 := h y (by simp)
    subst e1 e2
    simp at hn
theorem len_none {l : List Pt} (h : ∀ q, q ∉ l) : l.length = 0 := by
  match l, h with
  | [], _ => rfl
  | x :: l, h => exact absurd (by simp) (h x)

theorem meet_same {a b c d : Pt} (ha : CdP a) (hb : CdP b) (hc : CdP c) (hd : CdP d) : meetN a b c d = meetRef a b c d := by
  obtain ⟨hm, hn⟩ := both_inv a b c d
  unfold meetN meetRef
  by_cases hz : D a b c = 0 ∧ D a b d = 0 ∧ D c d a = 0 ∧ D c d b = 0
  · rw [if_pos hz]
    obtain ⟨z1, z2, z3, z4⟩ := hz
    have hall : ∀ q ∈ [a, b, c, d], CdP q ∧ D a b q = 0 ∧ D c d q = 0 := by
      intro q hq
      simp at hq
      rcases hq with rfl | rfl | rfl | rfl
      · exact ⟨ha, D_left _ _, z3⟩
      · exact ⟨hb, D_right _ _, z4⟩
      · exact ⟨hc, z1, D_left _ _⟩
      · exact ⟨hd, z2, D_right _ _⟩
    have hk : ∀ q, q ∈ both a b c d ↔ q ∈ [a, b, c, d] ∧ max (min (K a) (K b)) (min (K c) (K d)) ≤ K q ∧ K q ≤ min (max (K a) (K b)) (max (K c) (K d)) := by
      intro q
      rw [hm]
      constructor
      · rintro ⟨x, y1, y2⟩
        refine ⟨x, ?_⟩
        have h1 := ((holds_iff ha hb (hall q x).1).1 y1).1
        have h2 := ((holds_iff hc hd (hall q x).1).1 y2).1
        omega
      · rintro ⟨x, y⟩
        refine ⟨x, (holds_iff ha hb (hall q x).1).2 ⟨by omega, (hall q x).2.1⟩, (holds_iff hc hd (hall q x).1).2 ⟨by omega, (hall q x).2.2⟩⟩
    have e1 : ∃ p ∈ [a, b, c, d], K p = max (min (K a) (K b)) (min (K c) (K d)) := by
      rcases (show K a = max (min (K a) (K b)) (min (K c) (K d)) ∨ K b = max (min (K a) (K b)) (min (K c) (K d)) ∨ K c = max (min (K a) (K b)) (min (K c) (K d)) ∨ K d = max (min (K a) (K b)) (min (K c) (K d)) by omega) with h | h | h | h
      · exact ⟨a, by simp, h⟩
      · exact ⟨b, by simp, h⟩
      · exact ⟨c, by simp, h⟩
      · exact ⟨d, by simp, h⟩
    have e2 : ∃ p ∈ [a, b, c, d], K p = min (max (K a) (K b)) (max (K c) (K d)) := by
      rcases (show K a = min (max (K a) (K b)) (max (K c) (K d)) ∨ K b = min (max (K a) (K b)) (max (K c) (K d)) ∨ K c = min (max (K a) (K b)) (max (K c) (K d)) ∨ K d = min (max (K a) (K b)) (max (K c) (K d)) by omega) with h | h | h | h
      · exact ⟨a, by simp, h⟩
      · exact ⟨b, by simp, h⟩
      · exact ⟨c, by simp, h⟩
      · exact ⟨d, by simp, h⟩
    obtain ⟨p, p1, p2⟩ := e1
    obtain ⟨q, q1, q2⟩ := e2
    unfold lineN
    generalize max (min (K a) (K b)) (min (K c) (K d)) = F at *
    generalize min (max (K a) (K b)) (max (K c) (K d)) = L at *
    rcases Int.lt_trichotomy F L with h | h | h
    · rw [if_pos h, if_pos (len_two ((hk p).2 ⟨p1, by omega⟩) ((hk q).2 ⟨q1, by omega⟩) (by rintro rfl; omega))]
    · have : (both a b c d).length = 1 := len_one hn ((hk p).2 ⟨p1, by omega⟩) (fun r hr => by
        have := (hk r).1 hr
        exact K_inj (hall r this.1).1 (hall p p1).1 (by omega))
      rw [if_neg (by omega), if_pos h, if_neg (by omega), if_pos this]
    · have : (both a b c d).length = 0 := len_none (fun r hr => by have := (hk r).1 hr; omega)
      rw [if_neg (by omega), if_neg (by omega), if_neg (by omega), if_neg (by omega), if_neg ?_]
      rw [z1, z2]
      simp [sgn]
  · rw [if_neg hz]
    have h2 : ∀ p q, p ∈ both a b c d → q ∈ both a b c d → p = q := by
      intro p q hp hq
      have hp := ((hm p).1 hp).2
      have hq := ((hm q).1 hq).2
      apply Classical.byContradiction
      intro hne
      have same : ∀ x y : Pt, onP x y p → onP x y q → x ≠ y := by
        rintro x y h1 h2 rfl
        have a1 := h1.1; have a2 := h1.2.1; have b1 := h2.1; have b2 := h2.2.1
        unfold btw at a1 a2 b1 b2
        exact hne (pt_ext (by omega) (by omega))
      have n1 := same a b hp.1 hq.1
      have n2 := same c d hp.2 hq.2
      have la := line3 n1 hp.1.2.2 hq.1.2.2 (D_left a b)
      have lb := line3 n1 hp.1.2.2 hq.1.2.2 (D_right a b)
      have lc := line3 n2 hp.2.2.2 hq.2.2.2 (D_left c d)
      have ld := line3 n2 hp.2.2.2 hq.2.2.2 (D_right c d)
      exact hz ⟨line3 hne la lb lc, line3 hne la lb ld, line3 hne lc ld la, line3 hne lc ld lb⟩
    by_cases g1 : 0 < sgn (D a b c) * sgn (D a b d) ∨ 0 < sgn (D c d a) * sgn (D c d b)
    · rw [if_pos g1]
      have : (both a b c d).length = 0 := len_none (fun r hr => by
        have hr := ((hm r).1 hr).2
        rcases g1 with g | g
        · exact apart (sgn_mul_pos.1 g) hr.1.2.2 hr.2
        · exact apart (sgn_mul_pos.1 g) hr.2.2.2 hr.1)
      rw [if_neg (by omega), if_neg (by omega), if_neg ?_]
      omega
    · rw [if_neg g1]
      by_cases g2 : sgn (D a b c) * sgn (D a b d) < 0 ∧ sgn (D c d a) * sgn (D c d b) < 0
      · rw [if_pos g2]
        have g3 := sgn_mul_neg.1 g2.1
        have g4 := sgn_mul_neg.1 g2.2
        have : (both a b c d).length = 0 := len_none (fun r hr => by
          obtain ⟨hr0, hr⟩ := (hm r).1 hr
          have d1 := hr.1.2.2
          have d2 := hr.2.2.2
          simp at hr0
          rcases hr0 with rfl | rfl | rfl | rfl <;> omega)
        rw [if_neg (by omega), if_neg (by omega), if_pos g2]
      · rw [if_neg g2]
        have g3 : ¬(0 < sgn (D a b c) * sgn (D a b d)) := fun h => g1 (Or.inl h)
        have g4 : ¬(0 < sgn (D c d a) * sgn (D c d b)) := fun h => g1 (Or.inr h)
        rw [sgn_mul_pos] at g3 g4
        rw [sgn_mul_neg, sgn_mul_neg] at g2
        have ex : ∃ p, p ∈ both a b c d := by
          have sw : ∀ x y z : Pt, D x y z = 0 → D y x z = 0 := fun x y z h => by rw [D_swap, h]; rfl
          have hA : onP a b a := ⟨by unfold btw; omega, by unfold btw; omega, D_left _ _⟩
          have hB : onP a b b := ⟨by unfold btw; omega, by unfold btw; omega, D_right _ _⟩
          have hC : onP c d c := ⟨by unfold btw; omega, by unfold btw; omega, D_left _ _⟩
          have hD : onP c d d := ⟨by unfold btw; omega, by unfold btw; omega, D_right _ _⟩
          have key : ∀ a b c d : Pt, ¬(D a b c = 0 ∧ D a b d = 0 ∧ D c d a = 0 ∧ D c d b = 0) → ¬(0 < D c d a ∧ 0 < D c d b ∨ D c d a < 0 ∧ D c d b < 0) → D a b c = 0 → onP a b c := by
            intro a b c d hz hg h0
            apply touch (d := d) h0 _ (fun h => hg (Or.inl h)) (fun h => hg (Or.inr h))
            intro h1
            by_cases hab : a = b
            · subst hab
              apply hz
              refine ⟨h0, h1, ?_, ?_⟩ <;> omega
            · exact hz ⟨h0, h1, line3 hab h0 h1 (D_left a b), line3 hab h0 h1 (D_right a b)⟩
          rcases (show D a b c = 0 ∨ D a b d = 0 ∨ D c d a = 0 ∨ D c d b = 0 by omega) with h | h | h | h
          · exact ⟨c, (hm c).2 ⟨by simp, key a b c d hz g4 h, hC⟩⟩
          · refine ⟨d, (hm d).2 ⟨by simp, key a b d c ?_ ?_ h, hD⟩⟩
            · rw [D_swap c d a, D_swap c d b]; omega
            · rw [D_swap c d a, D_swap c d b]; omega
          · exact ⟨a, (hm a).2 ⟨by simp, hA, key c d a b (by omega) g3 h⟩⟩
          · refine ⟨b, (hm b).2 ⟨by simp, hB, key c d b a ?_ ?_ h⟩⟩
            · rw [D_swap a b c, D_swap a b d]; omega
            · rw [D_swap a b c, D_swap a b d]; omega
        obtain ⟨p, hp⟩ := ex
        have : (both a b c d).length = 1 := len_one hn hp (fun q hq => h2 q p hq hp)
        rw [if_neg (by omega), if_pos this]

end Go.Proofs.Ytgeoffpcmkofkaa
/- The walks of 'isCoord', 'checkPoints', 'Side' of package plumb. -/
namespace Go.Proofs.Ytgeoffpcmkofkaa
open Go.RowKit Fl
set_option maxRecDepth 100000

def cdB (n : Int) : Bool := decide (-9007199254740992 ≤ n) && decide (n ≤ 9007199254740992)
theorem cdB_iff {n : Int} : cdB n = true ↔ Cd n := by simp [cdB, Cd]

set_option maxHeartbeats 400000 in
theorem isCoord_any (n : Int) (w : World) : Calls Try.prog 55 #[.int .i64 n] w fun e w' => e = .returned (.bool (cdB n)) ∧ w = w' := by
  by_cases h1 : -9007199254740992 ≤ n
  · by_cases h2 : n ≤ 9007199254740992
    · have hb : cdB n = true := by simp [cdB, h1, h2]
      rw [hb]
      go_enter Try.func55, Try.ntmps55
      go_wp2
      go_ret
      exact ⟨rfl, rfl⟩
    · have hb : cdB n = false := by simp [cdB, h2]
      rw [hb]
      go_enter Try.func55, Try.ntmps55
      go_wp2
      go_ret
      exact ⟨rfl, rfl⟩
  · have hb : cdB n = false := by simp [cdB, h1]
    rw [hb]
    go_enter Try.func55, Try.ntmps55
    go_wp2
    go_ret
    exact ⟨rfl, rfl⟩

abbrev Pts := List (Int × Int)
/-- All coordinates may be. -/
def okB (l : Pts) : Bool := l.all fun p => cdB p.1 && cdB p.2
def okE (l : Pts) : Int := if okB l then 0 else 1

/-- The points lie from the cell off of block g on. -/
def PtsAt (w : World) (g off : Nat) (l : Pts) : Prop := ∀ i (h : i < l.length), w.cell? ⟨g, off + i * 2, none⟩ = some (.int .i64 l[i].1) ∧ w.cell? ⟨g, off + i * 2 + 1, none⟩ = some (.int .i64 l[i].2)

theorem PtsAt.kept {w w' : World} {g off : Nat} {l : Pts} (h : PtsAt w g off l) (hg : g < w.heap.size) (hn : New w w') : PtsAt w' g off l := by
  intro i hi
  rw [hn.rule g _ hg, hn.rule g _ hg]
  exact h i hi

theorem okB_take {l : Pts} {k : Nat} (hk : k < l.length) (h : okB (l.take k) = true) (h1 : cdB l[k].1 = true) (h2 : cdB l[k].2 = true) : okB (l.take (k + 1)) = true := by
  unfold okB at h ⊢
  rw [List.take_succ_eq_append_getElem hk, List.all_append, h]
  simp [h1, h2]

theorem okB_bad {l : Pts} {k : Nat} (hk : k < l.length) (h : cdB l[k].1 = false ∨ cdB l[k].2 = false) : okB l = false := by
  rw [Bool.eq_false_iff]
  intro hh
  have := List.all_eq_true.1 hh l[k] (List.getElem_mem hk)
  simp at this
  rcases h with h | h <;> simp [h] at this

set_option maxHeartbeats 800000 in
theorem checkPoints_len (g off cap : Nat) (l : Pts) (w : World) (h : PtsAt w g off l) (hg : g < w.heap.size) (hs : l.length ≤ 100000000000000) :
    Calls Try.prog 36 #[.slice (some ⟨g, off, none⟩) l.length cap] w fun e w' => e = .returned (.int .i64 (okE l)) ∧ Hid (New w w') := by
  go_enter Try.func36, Try.ntmps36
  go_wp2_with fail
  go_loopw [7] (fun i wr => ∃ k : Nat, i = .int .i64 k ∧ k ≤ l.length ∧ Hid (New w wr ∧ okB (l.take k) = true))
    (fun i _ => l.length - (intOf i).toNat)
  case atStart => exact ⟨0, rfl, Nat.zero_le _, New.refl _, rfl⟩
  case round =>
    obtain ⟨k, rfl, hle, H⟩ := hrel
    by_cases hk : k < l.length
    · have hc1 := ((h.kept hg H.out.1) k hk).1
      have hc2 := ((h.kept hg H.out.1) k hk).2
      go_wp2_with fail
      refine (isCoord_any l[k].1 _).mono ?_
      rintro e w1 ⟨rfl, rfl⟩
      cases hb1 : cdB l[k].1 with
      | false =>
        go_wp2_with fail
        go_ret
        exact ⟨by rw [okE, okB_bad hk (Or.inl hb1)]; rfl, H.out.1.alloc' _⟩
      | true =>
        go_wp2_with fail
        refine (isCoord_any l[k].2 _).mono ?_
        rintro e w1 ⟨rfl, rfl⟩
        cases hb2 : cdB l[k].2 with
        | false =>
          go_wp2_with fail
          go_ret
          exact ⟨by rw [okE, okB_bad hk (Or.inr hb2)]; rfl, H.out.1.alloc' _⟩
        | true =>
          go_wp2_with fail
          go_roundw
          case rel => exact ⟨k + 1, by go_num, hk, H.out.1.alloc' _, okB_take hk H.out.2 hb1 hb2⟩
          case measure => simp [intOf]; omega
    · have hk2 : k = l.length := by omega
      subst hk2
      have hok : okB l = true := by have := H.out.2; rwa [List.take_length] at this
      have HO : Hid (okB l = true) := hok
      clear hok
      go_wp2_with fail
      go_ret
      exact ⟨by rw [okE, HO.out]; rfl, H.out.1⟩
theorem checkPoints_any (g off cap : Nat) (l : Pts) (w : World) (h : PtsAt w g off l) (hg : g < w.heap.size) (hc : l.length ≤ cap) (hs : cap ≤ 100000000000000) :
    Calls Try.prog 36 #[.slice (some ⟨g, off, none⟩) l.length cap] w fun e w' => e = .returned (.int .i64 (okE l)) ∧ Hid (New w w') := checkPoints_len g off cap l w h hg (by omega)

/-- Points written out. -/
theorem ptsAt3 {w : World} {g : Nat} {ax ay bx by' cx cy : Int} (h : w.heap[g]? = some (.cells #[.int .i64 ax, .int .i64 ay, .int .i64 bx, .int .i64 by', .int .i64 cx, .int .i64 cy] 23 (0, 0))) : PtsAt w g 0 [(ax, ay), (bx, by'), (cx, cy)] := by
  intro i hi
  rw [cell_of_row w g _ _ 23 (0, 0) h, cell_of_row w g _ _ 23 (0, 0) h]
  match i, hi with
  | 0, _ => exact ⟨rfl, rfl⟩
  | 1, _ => exact ⟨rfl, rfl⟩
  | 2, _ => exact ⟨rfl, rfl⟩

theorem ptsAt4 {w : World} {g : Nat} {ax ay bx by' cx cy dx dy : Int} (h : w.heap[g]? = some (.cells #[.int .i64 ax, .int .i64 ay, .int .i64 bx, .int .i64 by', .int .i64 cx, .int .i64 cy, .int .i64 dx, .int .i64 dy] 23 (0, 0))) : PtsAt w g 0 [(ax, ay), (bx, by'), (cx, cy), (dx, dy)] := by
  intro i hi
  rw [cell_of_row w g _ _ 23 (0, 0) h, cell_of_row w g _ _ 23 (0, 0) h]
  match i, hi with
  | 0, _ => exact ⟨rfl, rfl⟩
  | 1, _ => exact ⟨rfl, rfl⟩
  | 2, _ => exact ⟨rfl, rfl⟩
  | 3, _ => exact ⟨rfl, rfl⟩

theorem okB_cd {l : Pts} (h : okB l = true) {p : Int × Int} (hp : p ∈ l) : Cd p.1 ∧ Cd p.2 := by
  have := List.all_eq_true.1 h p hp
  simp only [Bool.and_eq_true] at this
  exact ⟨cdB_iff.1 this.1, cdB_iff.1 this.2⟩

theorem check3 (ax ay bx by' cx cy : Int) (W : World) (g : Nat) (hg : g = W.heap.size) :
    Calls Try.prog 36 #[.slice (some ⟨g, 0, none⟩) 3 3] (W.alloc (.cells #[.int .i64 ax, .int .i64 ay, .int .i64 bx, .int .i64 by', .int .i64 cx, .int .i64 cy] 23)) fun e w' =>
      e = .returned (.int .i64 (okE [(ax, ay), (bx, by'), (cx, cy)])) ∧ Hid (New W w') := by
  subst hg
  refine (checkPoints_any W.heap.size 0 3 [(ax, ay), (bx, by'), (cx, cy)] _ (ptsAt3 (_root_.Go.heap_alloc_new W _)) (by simp) (by simp) (by omega)).mono ?_
  rintro e w1 ⟨rfl, H1⟩
  exact ⟨rfl, (New.alloc W _).trans' H1.out⟩

theorem check4 (ax ay bx by' cx cy dx dy : Int) (W : World) (g : Nat) (hg : g = W.heap.size) :
    Calls Try.prog 36 #[.slice (some ⟨g, 0, none⟩) 4 4] (W.alloc (.cells #[.int .i64 ax, .int .i64 ay, .int .i64 bx, .int .i64 by', .int .i64 cx, .int .i64 cy, .int .i64 dx, .int .i64 dy] 23)) fun e w' =>
      e = .returned (.int .i64 (okE [(ax, ay), (bx, by'), (cx, cy), (dx, dy)])) ∧ Hid (New W w') := by
  subst hg
  refine (checkPoints_any W.heap.size 0 4 [(ax, ay), (bx, by'), (cx, cy), (dx, dy)] _ (ptsAt4 (_root_.Go.heap_alloc_new W _)) (by simp) (by simp) (by omega)).mono ?_
  rintro e w1 ⟨rfl, H1⟩
  exact ⟨rfl, (New.alloc W _).trans' H1.out⟩

set_option maxHeartbeats 800000 in
theorem side_ok (ax ay bx by' cx cy : Int) (w : World) (hok : okB [(ax, ay), (bx, by'), (cx, cy)] = true) :
    Calls Try.prog 11 #[.agg #[.int .i64 ax, .int .i64 ay], .agg #[.int .i64 bx, .int .i64 by'], .agg #[.int .i64 cx, .int .i64 cy]] w fun e w' =>
      e = .returned (.tuple #[.int .i64 (sgn (det ax ay bx by' cx cy)), .int .i64 0]) ∧ Hid (New w w') := by
  have HO : Hid (okE [(ax, ay), (bx, by'), (cx, cy)] = 0 ∧ (Cd ax ∧ Cd ay) ∧ (Cd bx ∧ Cd by') ∧ (Cd cx ∧ Cd cy)) := ⟨by rw [okE, hok]; rfl, okB_cd hok (p := (ax, ay)) (by simp), okB_cd hok (p := (bx, by')) (by simp), okB_cd hok (p := (cx, cy)) (by simp)⟩
  clear hok
  go_enter Try.func11, Try.ntmps11
  go_wp2_with fail
  refine (check3 ax ay bx by' cx cy _ _ (by simp)).mono ?_
  rintro e w1 ⟨rfl, H1⟩
  have r1 := H1.out.rule
  have hE := HO.out.1
  go_wp2_with fail
  refine (of_any ax ay bx by' cx cy _ HO.out.2.1.1 HO.out.2.1.2 HO.out.2.2.1.1 HO.out.2.2.1.2 HO.out.2.2.2.1 HO.out.2.2.2.2).mono ?_
  rintro e w2 ⟨rfl, H2⟩
  clear r1
  go_wp2_with fail
  go_ret2
  exact ⟨rfl, ((((New.alloc _ _).alloc' _).alloc' _).trans' H1.out).trans' H2.out⟩

set_option maxHeartbeats 800000 in
theorem side_bad (ax ay bx by' cx cy : Int) (w : World) (hok : okB [(ax, ay), (bx, by'), (cx, cy)] = false) :
    Calls Try.prog 11 #[.agg #[.int .i64 ax, .int .i64 ay], .agg #[.int .i64 bx, .int .i64 by'], .agg #[.int .i64 cx, .int .i64 cy]] w fun e w' =>
      e = .returned (.tuple #[.int .i64 0, .int .i64 1]) ∧ Hid (New w w') := by
  have HO : Hid (okE [(ax, ay), (bx, by'), (cx, cy)] = 1) := by rw [Hid, okE, hok]; rfl
  clear hok
  go_enter Try.func11, Try.ntmps11
  go_wp2_with fail
  refine (check3 ax ay bx by' cx cy _ _ (by simp)).mono ?_
  rintro e w1 ⟨rfl, H1⟩
  have hE := HO.out
  go_wp2_with fail
  go_ret2
  exact ⟨rfl, (((New.alloc _ _).alloc' _).alloc' _).trans' H1.out⟩

end Go.Proofs.Ytgeoffpcmkofkaa
/- Small facts of memory. -/
namespace Go.Proofs.Ytgeoffpcmkofkaa
open Go.RowKit Fl
set_option maxRecDepth 100000

theorem Try.info3 : (Try.prog.info? 3).map (fun i => (i.zero, i.size, i.bytes)) = some (some (.int .i64 0), 1, 8) := by kernel_rfl

theorem pair_cell0 {w : World} {b : Nat} {x y : Value} {t : TypeId} (h : w.heap[b]? = some (.cells #[x, y] t (0, 0))) : w.cell? ⟨b, 0, none⟩ = some x := by simp [World.cell?, h]
theorem pair_cell1 {w : World} {b : Nat} {x y : Value} {t : TypeId} (h : w.heap[b]? = some (.cells #[x, y] t (0, 0))) : w.cell? ⟨b, 1, none⟩ = some y := by simp [World.cell?, h]
theorem pair_free {w : World} {b o : Nat} {x y : Value} {t : TypeId} (h : w.heap[b]? = some (.cells #[x, y] t (0, 0))) : w.frozen? ⟨b, o, none⟩ = false := by simp [World.frozen?, h]
theorem pair_set1 {w : World} {b : Nat} {x y u : Value} {t : TypeId} (h : w.heap[b]? = some (.cells #[x, y] t (0, 0))) : (w.setCell ⟨b, 1, none⟩ u).heap[b]? = some (.cells #[x, u] t (0, 0)) := by
  have hlt := lt_of_block h
  have h' : w.heap[b] = .cells #[x, y] t (0, 0) := by simpa [Array.getElem?_eq_getElem hlt] using h
  show (w.heap.modify b _)[b]? = _
  rw [Array.getElem?_eq_getElem (by simpa using hlt), Array.getElem_modify_self, h']
  rfl
theorem pair_set0 {w : World} {b : Nat} {x y u : Value} {t : TypeId} (h : w.heap[b]? = some (.cells #[x, y] t (0, 0))) : (w.setCell ⟨b, 0, none⟩ u).heap[b]? = some (.cells #[u, y] t (0, 0)) := by
  have hlt := lt_of_block h
  have h' : w.heap[b] = .cells #[x, y] t (0, 0) := by simpa [Array.getElem?_eq_getElem hlt] using h
  show (w.heap.modify b _)[b]? = _
  rw [Array.getElem?_eq_getElem (by simpa using hlt), Array.getElem_modify_self, h']
  rfl

theorem New.frule {W w1 : World} (h : New W w1) : ∀ b o, b < W.heap.size → w1.frozen? ⟨b, o, none⟩ = W.frozen? ⟨b, o, none⟩ :=
  fun b o hb => World.frozen?_of_block (a := ⟨b, o, none⟩) (h.block b hb (by simp))
theorem New.drew {w w1 : World} (h : New w w1) : New w w1.drew := h.drewN 1

end Go.Proofs.Ytgeoffpcmkofkaa
