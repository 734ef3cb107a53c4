/- Wg; Wh; Wi; Wj; Dig; Wk: texts laid into one. -/
import Derived.Test.YtgeoffpcmkofkaaQab
import Derived.Deep.QuietTactic
import Derived.BigQuiet
/- The walks of package side: 'roughApart', 'signBeyond', 'roughSide'. -/
namespace Go.Proofs.Ytgeoffpcmkofkaa
open Go.RowKit Fl
set_option maxRecDepth 100000

theorem New.refl (w : World) : New w w := World.grownBy.refl w none
theorem New.alloc (w : World) (o : Obj) : New w (w.alloc o) := World.grownBy_alloc w o none
theorem New.alloc' {w w1 : World} (h : New w w1) (o : Obj) : New w (w1.alloc o) := h.trans' (New.alloc w1 o)
theorem New.drewN {w w1 : World} (h : New w w1) (n : Nat) : New w (w1.drewN n) := ⟨h.os, h.tape, h.output, h.size, h.block⟩

/-- A coordinate. -/
def Cd (n : Int) : Prop := -9007199254740992 ≤ n ∧ n ≤ 9007199254740992

theorem Cd.co {n : Int} (h : Cd n) : Co (floatOfInt .f64 n, n) := by
  have h1 : (n.natAbs : Int) ≤ 9007199254740992 := by have := h.1; have := h.2; omega
  have e : (2 : Int) ^ 53 = 9007199254740992 := by decide
  exact ⟨F.ofInt n (by rw [e]; exact h1), h1⟩

set_option maxHeartbeats 400000 in
theorem roughApart_walk (px py fx fy : Int) (rx ry : Nat) (w : World) (h1 : Ieee.double.sub (floatOfInt .f64 px) (floatOfInt .f64 fx) = some rx) (h2 : Ieee.double.sub (floatOfInt .f64 py) (floatOfInt .f64 fy) = some ry) :
    Calls Try.prog 72 #[.agg #[.int .i64 px, .int .i64 py], .agg #[.int .i64 fx, .int .i64 fy]] w fun e w' => e = .returned (.tuple #[.float .f64 rx, .float .f64 ry]) ∧ New w w' := by
  have g1 := fsub h1 81
  have g2 := fsub h2 81
  clear h1 h2
  go_enter Try.func72, Try.ntmps72
  go_wp2
  go_quiet (fail)
  go_wp2
  go_ret2
  exact ⟨rfl, by
    refine New.drewN ?_ _
    exact (New.alloc _ _).alloc' _⟩

/-- A difference, rounded. -/
structure Df (X : Int) (r : Nat × Int) : Prop where
  word : F r.1 r.2 0
  rnd : Rnd X r.2
  small : (r.2.natAbs : Int) ≤ 36028797018963968

theorem df_of {p f : Int} (hp : Cd p) (hf : Cd f) : ∃ r : Nat × Int, Ieee.double.sub (floatOfInt .f64 p) (floatOfInt .f64 f) = some r.1 ∧ Df (p - f) r := by
  have h0 : (36028797018963968 : Int) < Big := Int.lt_trans (show (36028797018963968 : Int) < 2 ^ 56 by decide) (p2_lt_Big (by omega))
  have hs : ((p - f).natAbs : Int) ≤ 18014398509481984 := by have := hp.1; have := hp.2; have := hf.1; have := hf.2; omega
  obtain ⟨r, z, e1, q1, f1⟩ := hp.co.word.sub hf.co.word (by omega) (by simp only; omega)
  exact ⟨(r, z), e1, f1, q1, by have := q1.bd hs; simp only; omega⟩

theorem roughApart_any (px py fx fy : Int) (w : World) (h1 : Cd px) (h2 : Cd py) (h3 : Cd fx) (h4 : Cd fy) :
    Calls Try.prog 72 #[.agg #[.int .i64 px, .int .i64 py], .agg #[.int .i64 fx, .int .i64 fy]] w fun e w' => ∃ rx ry : Nat × Int, e = .returned (.tuple #[.float .f64 rx.1, .float .f64 ry.1]) ∧ Hid (New w w' ∧ Df (px - fx) rx ∧ Df (py - fy) ry) := by
  obtain ⟨rx, e1, d1⟩ := df_of h1 h3
  obtain ⟨ry, e2, d2⟩ := df_of h2 h4
  refine (roughApart_walk px py fx fy rx.1 ry.1 w e1 e2).mono ?_
  rintro e w' ⟨rfl, hn⟩
  exact ⟨rx, ry, rfl, hn, d1, d2⟩

theorem order_of {a b : Nat} {x y : Int} {k : Nat} (ha : F a x k) (hb : F b y k) : FloatKind.f64.format.order a b = some (compare x y) := ha.order hb

set_option maxHeartbeats 400000 in
theorem signBeyond_any (v s : Nat) (x S : Int) (c : Nat) (w : World) (hv : F v x 0) (hs : F s S c) :
    Calls Try.prog 73 #[.float .f64 v, .float .f64 s] w fun e w' => ∃ (sg : Int) (b : Bool), e = .returned (.tuple #[.int .i64 sg, .bool b]) ∧ w = w' ∧ Hid (b = true → (sg = 1 ∧ S < x * 2 ^ c) ∨ (sg = -1 ∧ x * 2 ^ c < -S)) := by
  have hx : F v (x * 2 ^ c) c := by have := hv.scale c; rwa [Nat.zero_add] at this
  have o1 := order_of hx hs
  have o2 := order_of hx hs.neg
  have hng := fneg
  clear hv hs hx
  by_cases h1 : S < x * 2 ^ c
  · have t1 : (FloatKind.f64.format.order v s == some .gt) = true := by rw [o1, Int.compare_eq_gt.2 h1]; rfl
    clear o1 o2
    have H1 : Hid (S < x * 2 ^ c) := h1
    clear h1
    go_enter Try.func73, Try.ntmps73
    go_wp2
    go_ret2
    exact ⟨1, true, rfl, rfl, fun _ => Or.inl ⟨rfl, H1.out⟩⟩
  · have t1 : (FloatKind.f64.format.order v s == some .gt) = false := by
      rw [o1]
      have : compare (x * 2 ^ c) S ≠ .gt := fun h => h1 (Int.compare_eq_gt.1 h)
      cases h : compare (x * 2 ^ c) S <;> simp_all
    by_cases h2 : x * 2 ^ c < -S
    · have t2 : (FloatKind.f64.format.order v (ng s) == some .lt) = true := by rw [o2, Int.compare_eq_lt.2 h2]; rfl
      have H2 : Hid (x * 2 ^ c < -S) := h2
      clear o1 o2 h1 h2
      go_enter Try.func73, Try.ntmps73
      go_wp2
      go_ret2
      exact ⟨-1, true, rfl, rfl, fun _ => Or.inr ⟨rfl, H2.out⟩⟩
    · have t2 : (FloatKind.f64.format.order v (ng s) == some .lt) = false := by
        rw [o2]
        have : compare (x * 2 ^ c) (-S) ≠ .lt := fun h => h2 (Int.compare_eq_lt.1 h)
        cases h : compare (x * 2 ^ c) (-S) <;> simp_all
      clear o1 o2 h1 h2
      go_enter Try.func73, Try.ntmps73
      go_wp2
      go_ret2
      exact ⟨0, false, rfl, rfl, fun h => absurd h (by simp)⟩

end Go.Proofs.Ytgeoffpcmkofkaa
/- The walks of package side: 'roughSide', 'exactSide', 'Of'. -/
namespace Go.Proofs.Ytgeoffpcmkofkaa
open Go.RowKit Fl
set_option maxRecDepth 100000

theorem New.rule {W w1 : World} (h : New W w1) : ∀ b o, b < W.heap.size → w1.cell? ⟨b, o, none⟩ = W.cell? ⟨b, o, none⟩ :=
  fun b o hb => World.cell?_of_block (a := ⟨b, o, none⟩) (h.block b hb (by simp))

/-- The number whose sign is the side. -/
def det (ax ay bx by' cx cy : Int) : Int := (bx - ax) * (cy - ay) - (by' - ay) * (cx - ax)

theorem slack50 : F 4382002437431492608 1 50 := by
  refine ⟨by decide, ?_⟩
  have e : Ieee.double.read 4382002437431492608 = .number false 4503599627370496 (-102) := by decide
  rw [e]
  exact Is.mk (u := 0) (v := 52) (by decide) (by decide)

theorem slack49 : F 4386506037058863104 1 49 := by
  refine ⟨by decide, ?_⟩
  have e : Ieee.double.read 4386506037058863104 = .number false 4503599627370496 (-101) := by decide
  rw [e]
  exact Is.mk (u := 0) (v := 52) (by decide) (by decide)

theorem small_Big {x : Int} {k : Nat} (h : (x.natAbs : Int) ≤ 2 ^ k) (hk : k < 900) : (x.natAbs : Int) < Big := Int.lt_of_le_of_lt h (p2_lt_Big hk)

theorem mul_le_p2 {x y : Int} {j k : Nat} (hx : (x.natAbs : Int) ≤ 2 ^ j) (hy : (y.natAbs : Int) ≤ 2 ^ k) : ((x * y).natAbs : Int) ≤ 2 ^ (j + k) := by
  rw [Int.natAbs_mul, Int.natCast_mul, p2_add]
  exact Int.mul_le_mul hx hy (by omega) (by have := p2_pos j; omega)

theorem Df.p2 {X : Int} {r : Nat × Int} (h : Df X r) : (r.2.natAbs : Int) ≤ 2 ^ 55 := by
  have e : (2 : Int) ^ 55 = 36028797018963968 := by decide
  rw [e]; exact h.small

theorem rnd_p2 {x z : Int} {k : Nat} (h : Rnd x z) (hx : (x.natAbs : Int) ≤ 2 ^ k) : (z.natAbs : Int) ≤ 2 ^ k := by
  have h1 := h.le (Rep.p2 k) (by omega)
  have h2 := h.ge (Rep.p2 k).neg (by omega)
  omega

theorem add_le_p2 {x y : Int} {k : Nat} (hx : (x.natAbs : Int) ≤ 2 ^ k) (hy : (y.natAbs : Int) ≤ 2 ^ k) : ((x + y).natAbs : Int) ≤ 2 ^ (k + 1) := by
  rw [p2_succ]; omega
theorem sub_le_p2 {x y : Int} {k : Nat} (hx : (x.natAbs : Int) ≤ 2 ^ k) (hy : (y.natAbs : Int) ≤ 2 ^ k) : ((x - y).natAbs : Int) ≤ 2 ^ (k + 1) := by
  rw [p2_succ]; omega

/-- All words of 'roughSide', and that its answer is right where it is sure. -/
theorem roughSide_words {A B C D : Int} {bx by' cx cy : Nat × Int} (h1 : Df A bx) (h2 : Df B by') (h3 : Df C cx) (h4 : Df D cy) :
    ∃ (l r d t s : Nat) (zd S : Int), Ieee.double.mul bx.1 cy.1 = some l ∧ Ieee.double.mul by'.1 cx.1 = some r ∧ Ieee.double.sub l r = some d ∧ Ieee.double.add (ab l) (ab r) = some t ∧ Ieee.double.mul 4382002437431492608 t = some s ∧
      l < 2 ^ 64 ∧ r < 2 ^ 64 ∧ F d zd 0 ∧ F s S 50 ∧ (S < zd * 2 ^ 50 → 0 < A * D - B * C) ∧ (zd * 2 ^ 50 < -S → A * D - B * C < 0) := by
  have b1 := mul_le_p2 h1.p2 h4.p2
  have b2 := mul_le_p2 h2.p2 h3.p2
  obtain ⟨l, zl, e1, q1, f1⟩ := h1.word.mul h4.word (by omega) (small_Big b1 (by omega))
  obtain ⟨r, zr, e2, q2, f2⟩ := h2.word.mul h3.word (by omega) (small_Big b2 (by omega))
  have c1 := rnd_p2 q1 b1
  have c2 := rnd_p2 q2 b2
  have b3 := sub_le_p2 c1 c2
  obtain ⟨d, zd, e3, q3, f3⟩ := f1.sub f2 (by omega) (small_Big b3 (by omega))
  have b4 : (((zl.natAbs : Int) + (zr.natAbs : Int)).natAbs : Int) ≤ 2 ^ (55 + 55 + 1) := add_le_p2 (by simpa using c1) (by simpa using c2)
  obtain ⟨t, zt, e4, q4, f4⟩ := f1.abs.add f2.abs (by omega) (small_Big b4 (by omega))
  have c4 := rnd_p2 q4 b4
  obtain ⟨s, zs, e5, q5, f5⟩ := slack50.mul f4 (by omega) (by rw [Int.one_mul]; exact small_Big c4 (by omega))
  rw [Int.one_mul] at q5
  have hzs := q5.exact q4.rep
  subst hzs
  have E1 : E (A * D) zl zl.natAbs 391 := (((E.rnd h1.rnd).mul (E.rnd h4.rnd) (by omega) (by omega) (by omega) (by omega)).round q1 (by rw [Int.natAbs_mul, Int.natCast_mul]) (by omega) (by omega)).mono (by omega)
  have E2 : E (B * C) zr zr.natAbs 391 := (((E.rnd h2.rnd).mul (E.rnd h3.rnd) (by omega) (by omega) (by omega) (by omega)).round q2 (by rw [Int.natAbs_mul, Int.natCast_mul]) (by omega) (by omega)).mono (by omega)
  have E3 := (E1.sub E2).roundS q3 (by omega) (by omega)
  have G1 := G.rnd q4 (by omega)
  have e50 : (2 : Int) ^ 50 = 1125899906842624 := by decide
  have hs := sign_sure (m := 2 ^ 50) E3 G1 (by omega) (by omega) e50
  exact ⟨l, r, d, t, s, zd, zs, e1, e2, e3, e4, e5, f1.1, f2.1, f3, f5, hs.1, hs.2⟩

set_option maxHeartbeats 800000 in
theorem roughSide_any (ax ay bx by' cx cy : Int) (w : World) (h1 : Cd ax) (h2 : Cd ay) (h3 : Cd bx) (h4 : Cd by') (h5 : Cd cx) (h6 : Cd cy) :
    Calls Try.prog 56 #[.agg #[.int .i64 ax, .int .i64 ay], .agg #[.int .i64 bx, .int .i64 by'], .agg #[.int .i64 cx, .int .i64 cy]] w fun e w' =>
      ∃ (sg : Int) (b : Bool), e = .returned (.tuple #[.int .i64 sg, .bool b]) ∧ Hid (New w w' ∧ (b = true → sg = sgn (det ax ay bx by' cx cy))) := by
  go_enter Try.func56, Try.ntmps56
  go_wp2_with fail
  refine (roughApart_any bx by' ax ay _ h3 h4 h1 h2).mono ?_
  rintro e w1 ⟨rbx, rby, rfl, H1⟩
  have r1 := H1.out.1.rule
  go_wp2_with fail
  refine (roughApart_any cx cy ax ay _ h5 h6 h1 h2).mono ?_
  rintro e w2 ⟨rcx, rcy, rfl, H2⟩
  obtain ⟨l, r, d, t, s, zd, S, e1, e2, e3, e4, e5, hl, hr, fd, fs, k1, k2⟩ := roughSide_words H1.out.2.1 H1.out.2.2 H2.out.2.1 H2.out.2.2
  have HK : Hid ((S < zd * 2 ^ 50 → 0 < det ax ay bx by' cx cy) ∧ (zd * 2 ^ 50 < -S → det ax ay bx by' cx cy < 0) ∧ New w w2) := ⟨k1, k2, ((((New.alloc _ _).alloc' _).alloc' _).trans' H1.out.1).trans' H2.out.1⟩
  have g1 := fmul e1 81
  have g2 := fmul e2 81
  have g3 := fsub e3 81
  have g4 := fadd e4 81
  have g5 := fmul e5 81
  clear k1 k2 e1 e2 e3 e4 e5 r1 H1 H2
  go_wp2_with fail
  refine (abs_walk l _ hl).mono ?_
  rintro e w3 ⟨rfl, rfl⟩
  go_wp2_with fail
  refine (abs_walk r _ hr).mono ?_
  rintro e w4 ⟨rfl, rfl⟩
  go_wp2_with fail
  refine (signBeyond_any d s zd S 50 _ fd fs).mono ?_
  rintro e w5 ⟨sg, b, rfl, rfl, H5⟩
  go_wp2_with fail
  go_ret2
  refine ⟨sg, b, rfl, HK.out.2.2, fun hb => ?_⟩
  rcases H5.out hb with ⟨rfl, h⟩ | ⟨rfl, h⟩
  · have := HK.out.1 h
    unfold sgn; rw [if_neg (by omega), if_neg (by omega)]
  · have := HK.out.2.1 h
    unfold sgn; rw [if_pos this]

end Go.Proofs.Ytgeoffpcmkofkaa
/- Expansions as numbers; the walks of package side: 'exactApart', 'exactSide', 'Of'. -/
namespace Go.Proofs.Ytgeoffpcmkofkaa
open Go.RowKit Fl
set_option maxRecDepth 100000

/-- At the head of block g lies the number v, in at most n parts, whose mass is at most 2 ^ m. -/
structure Nm (w : World) (g cap : Nat) (ws : Ws) (v : Int) (m n : Nat) : Prop where
  lst : Lst w g cap ws
  tot : total (vals ws) = v
  mass : mass (vals ws) ≤ 2 ^ m
  len : ws.length ≤ n

theorem Nm.kept {w w' : World} {g cap : Nat} {ws : Ws} {v : Int} {m n : Nat} (h : Nm w g cap ws v m n) (hn : New w w') : Nm w' g cap ws v m n :=
  ⟨h.lst.kept hn (by simp), h.tot, h.mass, h.len⟩

theorem times_nm {w : World} {g1 c1 g2 c2 : Nat} {e f : Ws} {u v : Int} {a b n m : Nat} (h1 : Nm w g1 c1 e u a n) (h2 : Nm w g2 c2 f v b m) (hnm : n * m ≤ 1024) (h40 : 40 ≤ a + b) (h800 : a + b ≤ 800) :
    Calls Try.prog 76 #[.slice (some ⟨g1, 0, none⟩) e.length c1, .slice (some ⟨g2, 0, none⟩) f.length c2] w fun e' w' =>
      ∃ (g3 cap : Nat) (out : Ws), e' = .returned (.slice (some ⟨g3, 0, none⟩) out.length cap) ∧ Hid (Nm w' g3 cap out (u * v) (a + b + 1) (2 * (n * m)) ∧ w.heap.size ≤ g3 ∧ New w w') := by
  obtain ⟨K, hK⟩ : ∃ K, a + b = 40 + K := ⟨a + b - 40, by omega⟩
  have hc : e.length * f.length ≤ n * m := Nat.mul_le_mul h1.len h2.len
  have hp := p2_pos K
  have hab : Fl.mass (vals e) * Fl.mass (vals f) ≤ 1099511627776 * 2 ^ K := by
    have : (2 : Int) ^ (a + b) = 1099511627776 * 2 ^ K := by rw [hK, p2_add]; rfl
    rw [← this, p2_add]
    exact Int.mul_le_mul h1.mass h2.mass (mass_nonneg _) (by have := p2_pos a; omega)
  have hC : ((e.length * f.length : Nat) : Int) * (4 * (e.length * f.length : Nat) + 1) * 2 ^ K ≤ 8388608 * 2 ^ K := by
    refine Int.mul_le_mul_of_nonneg_right ?_ (by omega)
    have : ((e.length * f.length : Nat) : Int) * (4 * (e.length * f.length : Nat) + 1) ≤ 1024 * 4097 := Int.mul_le_mul (by omega) (by omega) (by omega) (by omega)
    omega
  have e52 : (2 : Int) ^ 52 = 4503599627370496 := by decide
  have hpre : MulPre e f K := ⟨h1.lst.words, h2.lst.words, h1.lst.ex, h2.lst.ex, by omega, by omega, by rw [e52]; omega⟩
  refine (times_any g1 c1 g2 c2 e f K w h1.lst h2.lst hpre).mono ?_
  rintro e' w' ⟨g3, cap, out, rfl, H⟩
  refine ⟨g3, cap, out, rfl, ⟨H.out.1, ?_, ?_, ?_⟩, H.out.2.1, H.out.2.2.1⟩
  · have := H.out.2.2.2.tot
    rw [List.take_length, Int.zero_mul, Int.add_zero, h1.tot, h2.tot] at this
    exact this
  · have := H.out.2.2.2.bound
    rw [List.take_length] at this
    simp only [List.take_zero, vals, List.map_nil, Fl.mass, Int.natAbs_zero, Nat.add_zero] at this hab ⊢
    have e1 : (2 : Int) ^ (a + b + 1) = 2199023255552 * 2 ^ K := by rw [p2_succ, hK, p2_add]; grind
    rw [e1]
    omega
  · have := H.out.2.2.2.len
    omega

theorem addinv_nm {σ : Int} {w' : World} {g3 cap : Nat} {e f out : Ws} {K a : Nat} (hl : Lst w' g3 cap out) (ha : AddInv σ e f K f.length out) {u v : Int} {n m : Nat} (hu : total (vals e) = u) (hv : total (vals f) = v) (hme : mass (vals e) ≤ 2 ^ a) (hmf : mass (vals f) ≤ 2 ^ a)
    (hn : e.length ≤ n) (hm : f.length ≤ m) (hnm : n + m ≤ 4096) (hK : a = 30 + K) : Nm w' g3 cap out (u + σ * v) (a + 2) (n + m) := by
  refine ⟨hl, ?_, ?_, ?_⟩
  · rw [ha.tot, List.take_length, hu, hv]
  · have hb := ha.bound
    rw [List.drop_length] at hb
    simp only [vals, List.map_nil, Fl.mass] at hb hme hmf ⊢
    have hp := p2_pos K
    have e1 : (2 : Int) ^ a = 1073741824 * 2 ^ K := by rw [hK, p2_add]; rfl
    have e2 : (2 : Int) ^ (a + 2) = 4294967296 * 2 ^ K := by rw [p2_succ, p2_succ, e1]; grind
    have h3 : (f.length : Int) * (e.length + f.length) * 2 ^ K ≤ 16777216 * 2 ^ K := by
      refine Int.mul_le_mul_of_nonneg_right ?_ (by omega)
      have : (f.length : Int) * (e.length + f.length) ≤ 4096 * 4096 := Int.mul_le_mul (by omega) (by omega) (by omega) (by omega)
      omega
    rw [e1] at hme hmf
    rw [e2]
    omega
  · have := ha.len
    omega

theorem add_fits {e f : Ws} {K a n m : Nat} (hme : mass (vals e) ≤ 2 ^ a) (hmf : mass (vals f) ≤ 2 ^ a) (hn : e.length ≤ n) (hm : f.length ≤ m) (hnm : n + m ≤ 4096) (hK : a = 30 + K) :
    mass (vals e) + mass (vals f) + f.length * (e.length + f.length) * 2 ^ K ≤ 2 ^ 52 * 2 ^ K := by
  have hp := p2_pos K
  have e1 : (2 : Int) ^ a = 1073741824 * 2 ^ K := by rw [hK, p2_add]; rfl
  have e52 : (2 : Int) ^ 52 = 4503599627370496 := by decide
  have h3 : (f.length : Int) * (e.length + f.length) * 2 ^ K ≤ 16777216 * 2 ^ K := by
    refine Int.mul_le_mul_of_nonneg_right ?_ (by omega)
    have : (f.length : Int) * (e.length + f.length) ≤ 4096 * 4096 := Int.mul_le_mul (by omega) (by omega) (by omega) (by omega)
    omega
  rw [e1] at hme hmf
  rw [e52]
  omega

theorem plus_nm {w : World} {g1 c1 g2 c2 : Nat} {e f : Ws} {u v : Int} {a n m : Nat} (h1 : Nm w g1 c1 e u a n) (h2 : Nm w g2 c2 f v a m) (hnm : n + m ≤ 4096) (h30 : 30 ≤ a) (h800 : a ≤ 800) :
    Calls Try.prog 83 #[.slice (some ⟨g1, 0, none⟩) e.length c1, .slice (some ⟨g2, 0, none⟩) f.length c2] w fun e' w' =>
      ∃ (g3 cap : Nat) (out : Ws), e' = .returned (.slice (some ⟨g3, 0, none⟩) out.length cap) ∧ Hid (Nm w' g3 cap out (u + v) (a + 2) (n + m) ∧ w.heap.size ≤ g3 ∧ New w w') := by
  obtain ⟨K, hK⟩ : ∃ K, a = 30 + K := ⟨a - 30, by omega⟩
  have hn := h1.len
  have hm := h2.len
  refine (plus_any g1 c1 g2 c2 e f K w h1.lst h2.lst (by omega) (by omega) (add_fits h1.mass h2.mass h1.len h2.len hnm hK)).mono ?_
  rintro e' w' ⟨g3, out, rfl, H⟩
  refine ⟨g3, _, out, rfl, ?_, H.out.2.1, H.out.2.2.1⟩
  have := addinv_nm H.out.1 H.out.2.2.2 h1.tot h2.tot h1.mass h2.mass h1.len h2.len hnm hK
  rwa [Int.one_mul] at this

theorem minus_nm {w : World} {g1 c1 g2 c2 : Nat} {e f : Ws} {u v : Int} {a n m : Nat} (h1 : Nm w g1 c1 e u a n) (h2 : Nm w g2 c2 f v a m) (hnm : n + m ≤ 4096) (h30 : 30 ≤ a) (h800 : a ≤ 800) :
    Calls Try.prog 77 #[.slice (some ⟨g1, 0, none⟩) e.length c1, .slice (some ⟨g2, 0, none⟩) f.length c2] w fun e' w' =>
      ∃ (g3 cap : Nat) (out : Ws), e' = .returned (.slice (some ⟨g3, 0, none⟩) out.length cap) ∧ Hid (Nm w' g3 cap out (u - v) (a + 2) (n + m) ∧ w.heap.size ≤ g3 ∧ New w w') := by
  obtain ⟨K, hK⟩ : ∃ K, a = 30 + K := ⟨a - 30, by omega⟩
  have hn := h1.len
  have hm := h2.len
  refine (minus_any g1 c1 g2 c2 e f K w h1.lst h2.lst (by omega) (by omega) (add_fits h1.mass h2.mass h1.len h2.len hnm hK)).mono ?_
  rintro e' w' ⟨g3, out, rfl, H⟩
  refine ⟨g3, _, out, rfl, ?_, H.out.2.1, H.out.2.2.1⟩
  have := addinv_nm H.out.1 H.out.2.2.2 h1.tot h2.tot h1.mass h2.mass h1.len h2.len hnm hK
  have e1 : u + -1 * v = u - v := by omega
  rwa [e1] at this

theorem difference_nm (a b : Nat × Int) (w : World) (ha : Co a) (hb : Co b) :
    Calls Try.prog 94 #[.float .f64 a.1, .float .f64 b.1] w fun e w' =>
      ∃ (g : Nat) (out : Ws), e = .returned (.slice (some ⟨g, 0, none⟩) out.length 2) ∧ Hid (Nm w' g 2 out (a.2 - b.2) 55 2 ∧ w.heap.size ≤ g ∧ New w w') := by
  refine (difference_any a b w ha hb).mono ?_
  rintro e' w' ⟨g, out, rfl, H⟩
  exact ⟨g, out, rfl, ⟨H.out.1, H.out.2.2.2.1, H.out.2.2.2.2, H.out.1.le⟩, H.out.2.1, H.out.2.2.1⟩

set_option maxHeartbeats 400000 in
theorem exactApart_any (px py fx fy : Int) (w : World) (h1 : Cd px) (h2 : Cd py) (h3 : Cd fx) (h4 : Cd fy) :
    Calls Try.prog 75 #[.agg #[.int .i64 px, .int .i64 py], .agg #[.int .i64 fx, .int .i64 fy]] w fun e w' =>
      ∃ (g1 g2 : Nat) (X Y : Ws), e = .returned (.tuple #[.slice (some ⟨g1, 0, none⟩) X.length 2, .slice (some ⟨g2, 0, none⟩) Y.length 2]) ∧ Hid (Nm w' g1 2 X (px - fx) 55 2 ∧ Nm w' g2 2 Y (py - fy) 55 2 ∧ w.heap.size ≤ g1 ∧ w.heap.size ≤ g2 ∧ New w w') := by
  go_enter Try.func75, Try.ntmps75
  go_wp2_with fail
  refine (difference_nm (floatOfInt .f64 px, px) (floatOfInt .f64 fx, fx) _ h1.co h3.co).mono ?_
  rintro e w1 ⟨g1, X, rfl, H1⟩
  have r1 := H1.out.2.2.rule
  go_wp2_with fail
  refine (difference_nm (floatOfInt .f64 py, py) (floatOfInt .f64 fy, fy) _ h2.co h4.co).mono ?_
  rintro e w2 ⟨g2, Y, rfl, H2⟩
  have HN : Hid (New w w1 ∧ w.heap.size ≤ g1) := ⟨((New.alloc _ _).alloc' _).trans' H1.out.2.2, by have := H1.out.2.1; simp at this; omega⟩
  clear r1
  go_wp2_with fail
  go_ret2
  exact ⟨g1, g2, X, Y, rfl, H1.out.1.kept H2.out.2.2, H2.out.1, HN.out.2, Nat.le_trans HN.out.1.size H2.out.2.1, HN.out.1.trans' H2.out.2.2⟩

set_option maxHeartbeats 800000 in
theorem exactSide_any (ax ay bx by' cx cy : Int) (w : World) (h1 : Cd ax) (h2 : Cd ay) (h3 : Cd bx) (h4 : Cd by') (h5 : Cd cx) (h6 : Cd cy) :
    Calls Try.prog 57 #[.agg #[.int .i64 ax, .int .i64 ay], .agg #[.int .i64 bx, .int .i64 by'], .agg #[.int .i64 cx, .int .i64 cy]] w fun e w' =>
      e = .returned (.int .i64 (sgn (det ax ay bx by' cx cy))) ∧ Hid (New w w') := by
  go_enter Try.func57, Try.ntmps57
  go_wp2_with fail
  refine (exactApart_any bx by' ax ay _ h3 h4 h1 h2).mono ?_
  rintro e w1 ⟨g1, g2, X1, Y1, rfl, H1⟩
  have r1 := H1.out.2.2.2.2.rule
  go_wp2_with fail
  refine (exactApart_any cx cy ax ay _ h5 h6 h1 h2).mono ?_
  rintro e w2 ⟨g3, g4, X2, Y2, rfl, H2⟩
  have HN : Hid (New w w2) := ((((New.alloc _ _).alloc' _).alloc' _).trans' H1.out.2.2.2.2).trans' H2.out.2.2.2.2
  clear r1
  go_wp2_with fail
  refine (times_nm (H1.out.1.kept H2.out.2.2.2.2) H2.out.2.1 (by omega) (by omega) (by omega)).mono ?_
  rintro e w3 ⟨g5, c5, P, rfl, H3⟩
  go_wp2_with fail
  refine (times_nm ((H1.out.2.1.kept H2.out.2.2.2.2).kept H3.out.2.2) (H2.out.1.kept H3.out.2.2) (by omega) (by omega) (by omega)).mono ?_
  rintro e w4 ⟨g6, c6, Q, rfl, H4⟩
  go_wp2_with fail
  refine (minus_nm (H3.out.1.kept H4.out.2.2) H4.out.1 (by omega) (by omega) (by omega)).mono ?_
  rintro e w5 ⟨g7, c7, R, rfl, H5⟩
  go_wp2_with fail
  refine (sign_any g7 c7 R _ H5.out.1.lst).mono ?_
  rintro e w6 ⟨rfl, rfl⟩
  go_wp2_with fail
  go_ret
  exact ⟨by rw [H5.out.1.tot]; rfl, ((HN.out.trans' H3.out.2.2).trans' H4.out.2.2).trans' H5.out.2.2⟩

set_option maxHeartbeats 400000 in
theorem of_any (ax ay bx by' cx cy : Int) (w : World) (h1 : Cd ax) (h2 : Cd ay) (h3 : Cd bx) (h4 : Cd by') (h5 : Cd cx) (h6 : Cd cy) :
    Calls Try.prog 37 #[.agg #[.int .i64 ax, .int .i64 ay], .agg #[.int .i64 bx, .int .i64 by'], .agg #[.int .i64 cx, .int .i64 cy]] w fun e w' =>
      e = .returned (.int .i64 (sgn (det ax ay bx by' cx cy))) ∧ Hid (New w w') := by
  go_enter Try.func37, Try.ntmps37
  go_wp2_with fail
  refine (roughSide_any ax ay bx by' cx cy _ h1 h2 h3 h4 h5 h6).mono ?_
  rintro e w1 ⟨sg, b, rfl, H1⟩
  have r1 := H1.out.1.rule
  have HN : Hid (New w w1) := (((New.alloc _ _).alloc' _).alloc' _).trans' H1.out.1
  cases b with
  | true =>
    have hs := H1.out.2 rfl
    subst hs
    go_wp2_with fail
    go_ret
    exact ⟨rfl, HN.out⟩
  | false =>
    go_wp2_with fail
    refine (exactSide_any ax ay bx by' cx cy _ h1 h2 h3 h4 h5 h6).mono ?_
    rintro e w2 ⟨rfl, H2⟩
    clear r1
    go_wp2_with fail
    go_ret
    exact ⟨rfl, HN.out.trans' H2.out⟩

end Go.Proofs.Ytgeoffpcmkofkaa
/- The walks of 'isCoord', 'checkPoints', 'Side' of package plumb. -/
namespace Go.Proofs.Ytgeoffpcmkofkaa
open Go.RowKit Fl
set_option maxRecDepth 100000

def cdB (n : Int) : Bool := decide (-9007199254740992 ≤ n) && decide (n ≤ 9007199254740992)
theorem cdB_iff {n : Int} : cdB n = true ↔ Cd n := by simp [cdB, Cd]

set_option maxHeartbeats 400000 in
theorem isCoord_any (n : Int) (w : World) : Calls Try.prog 55 #[.int .i64 n] w fun e w' => e = .returned (.bool (cdB n)) ∧ w = w' := by
  by_cases h1 : -9007199254740992 ≤ n
  · by_cases h2 : n ≤ 9007199254740992
    · have hb : cdB n = true := by simp [cdB, h1, h2]
      rw [hb]
      go_enter Try.func55, Try.ntmps55
      go_wp2
      go_ret
      exact ⟨rfl, rfl⟩
    · have hb : cdB n = false := by simp [cdB, h2]
      rw [hb]
      go_enter Try.func55, Try.ntmps55
      go_wp2
      go_ret
      exact ⟨rfl, rfl⟩
  · have hb : cdB n = false := by simp [cdB, h1]
    rw [hb]
    go_enter Try.func55, Try.ntmps55
    go_wp2
    go_ret
    exact ⟨rfl, rfl⟩

abbrev Pts := List (Int × Int)
/-- All coordinates may be. -/
def okB (l : Pts) : Bool := l.all fun p => cdB p.1 && cdB p.2
def okE (l : Pts) : Int := if okB l then 0 else 1

/-- The points lie from the cell off of block g on. -/
def PtsAt (w : World) (g off : Nat) (l : Pts) : Prop := ∀ i (h : i < l.length), w.cell? ⟨g, off + i * 2, none⟩ = some (.int .i64 l[i].1) ∧ w.cell? ⟨g, off + i * 2 + 1, none⟩ = some (.int .i64 l[i].2)

theorem PtsAt.kept {w w' : World} {g off : Nat} {l : Pts} (h : PtsAt w g off l) (hg : g < w.heap.size) (hn : New w w') : PtsAt w' g off l := by
  intro i hi
  rw [hn.rule g _ hg, hn.rule g _ hg]
  exact h i hi

theorem okB_take {l : Pts} {k : Nat} (hk : k < l.length) (h : okB (l.take k) = true) (h1 : cdB l[k].1 = true) (h2 : cdB l[k].2 = true) : okB (l.take (k + 1)) = true := by
  unfold okB at h ⊢
  rw [List.take_succ_eq_append_getElem hk, List.all_append, h]
  simp [h1, h2]

theorem okB_bad {l : Pts} {k : Nat} (hk : k < l.length) (h : cdB l[k].1 = false ∨ cdB l[k].2 = false) : okB l = false := by
  rw [Bool.eq_false_iff]
  intro hh
  have := List.all_eq_true.1 hh l[k] (List.getElem_mem hk)
  simp at this
  rcases h with h | h <;> simp [h] at this

set_option maxHeartbeats 800000 in
theorem checkPoints_len (g off cap : Nat) (l : Pts) (w : World) (h : PtsAt w g off l) (hg : g < w.heap.size) (hs : l.length ≤ 100000000000000) :
    Calls Try.prog 36 #[.slice (some ⟨g, off, none⟩) l.length cap] w fun e w' => e = .returned (.int .i64 (okE l)) ∧ Hid (New w w') := by
  go_enter Try.func36, Try.ntmps36
  go_wp2_with fail
  go_loopw [7] (fun i wr => ∃ k : Nat, i = .int .i64 k ∧ k ≤ l.length ∧ Hid (New w wr ∧ okB (l.take k) = true))
    (fun i _ => l.length - (intOf i).toNat)
  case atStart => exact ⟨0, rfl, Nat.zero_le _, New.refl _, rfl⟩
  case round =>
    obtain ⟨k, rfl, hle, H⟩ := hrel
    by_cases hk : k < l.length
    · have hc1 := ((h.kept hg H.out.1) k hk).1
      have hc2 := ((h.kept hg H.out.1) k hk).2
      go_wp2_with fail
      refine (isCoord_any l[k].1 _).mono ?_
      rintro e w1 ⟨rfl, rfl⟩
      cases hb1 : cdB l[k].1 with
      | false =>
        go_wp2_with fail
        go_ret
        exact ⟨by rw [okE, okB_bad hk (Or.inl hb1)]; rfl, H.out.1.alloc' _⟩
      | true =>
        go_wp2_with fail
        refine (isCoord_any l[k].2 _).mono ?_
        rintro e w1 ⟨rfl, rfl⟩
        cases hb2 : cdB l[k].2 with
        | false =>
          go_wp2_with fail
          go_ret
          exact ⟨by rw [okE, okB_bad hk (Or.inr hb2)]; rfl, H.out.1.alloc' _⟩
        | true =>
          go_wp2_with fail
          go_roundw
          case rel => exact ⟨k + 1, by go_num, hk, H.out.1.alloc' _, okB_take hk H.out.2 hb1 hb2⟩
          case measure => simp [intOf]; omega
    · have hk2 : k = l.length := by omega
      subst hk2
      have hok : okB l = true := by have := H.out.2; rwa [List.take_length] at this
      have HO : Hid (okB l = true) := hok
      clear hok
      go_wp2_with fail
      go_ret
      exact ⟨by rw [okE, HO.out]; rfl, H.out.1⟩
theorem checkPoints_any (g off cap : Nat) (l : Pts) (w : World) (h : PtsAt w g off l) (hg : g < w.heap.size) (hc : l.length ≤ cap) (hs : cap ≤ 100000000000000) :
    Calls Try.prog 36 #[.slice (some ⟨g, off, none⟩) l.length cap] w fun e w' => e = .returned (.int .i64 (okE l)) ∧ Hid (New w w') := checkPoints_len g off cap l w h hg (by omega)

/-- Points written out. -/
theorem ptsAt3 {w : World} {g : Nat} {ax ay bx by' cx cy : Int} (h : w.heap[g]? = some (.cells #[.int .i64 ax, .int .i64 ay, .int .i64 bx, .int .i64 by', .int .i64 cx, .int .i64 cy] 23 (0, 0))) : PtsAt w g 0 [(ax, ay), (bx, by'), (cx, cy)] := by
  intro i hi
  rw [cell_of_row w g _ _ 23 (0, 0) h, cell_of_row w g _ _ 23 (0, 0) h]
  match i, hi with
  | 0, _ => exact ⟨rfl, rfl⟩
  | 1, _ => exact ⟨rfl, rfl⟩
  | 2, _ => exact ⟨rfl, rfl⟩

theorem ptsAt4 {w : World} {g : Nat} {ax ay bx by' cx cy dx dy : Int} (h : w.heap[g]? = some (.cells #[.int .i64 ax, .int .i64 ay, .int .i64 bx, .int .i64 by', .int .i64 cx, .int .i64 cy, .int .i64 dx, .int .i64 dy] 23 (0, 0))) : PtsAt w g 0 [(ax, ay), (bx, by'), (cx, cy), (dx, dy)] := by
  intro i hi
  rw [cell_of_row w g _ _ 23 (0, 0) h, cell_of_row w g _ _ 23 (0, 0) h]
  match i, hi with
  | 0, _ => exact ⟨rfl, rfl⟩
  | 1, _ => exact ⟨rfl, rfl⟩
  | 2, _ => exact ⟨rfl, rfl⟩
  | 3, _ => exact ⟨rfl, rfl⟩

theorem okB_cd {l : Pts} (h : okB l = true) {p : Int × Int} (hp : p ∈ l) : Cd p.1 ∧ Cd p.2 := by
  have := List.all_eq_true.1 h p hp
  simp only [Bool.and_eq_true] at this
  exact ⟨cdB_iff.1 this.1, cdB_iff.1 this.2⟩

theorem check3 (ax ay bx by' cx cy : Int) (W : World) (g : Nat) (hg : g = W.heap.size) :
    Calls Try.prog 36 #[.slice (some ⟨g, 0, none⟩) 3 3] (W.alloc (.cells #[.int .i64 ax, .int .i64 ay, .int .i64 bx, .int .i64 by', .int .i64 cx, .int .i64 cy] 23)) fun e w' =>
      e = .returned (.int .i64 (okE [(ax, ay), (bx, by'), (cx, cy)])) ∧ Hid (New W w') := by
  subst hg
  refine (checkPoints_any W.heap.size 0 3 [(ax, ay), (bx, by'), (cx, cy)] _ (ptsAt3 (_root_.Go.heap_alloc_new W _)) (by simp) (by simp) (by omega)).mono ?_
  rintro e w1 ⟨rfl, H1⟩
  exact ⟨rfl, (New.alloc W _).trans' H1.out⟩

theorem check4 (ax ay bx by' cx cy dx dy : Int) (W : World) (g : Nat) (hg : g = W.heap.size) :
    Calls Try.prog 36 #[.slice (some ⟨g, 0, none⟩) 4 4] (W.alloc (.cells #[.int .i64 ax, .int .i64 ay, .int .i64 bx, .int .i64 by', .int .i64 cx, .int .i64 cy, .int .i64 dx, .int .i64 dy] 23)) fun e w' =>
      e = .returned (.int .i64 (okE [(ax, ay), (bx, by'), (cx, cy), (dx, dy)])) ∧ Hid (New W w') := by
  subst hg
  refine (checkPoints_any W.heap.size 0 4 [(ax, ay), (bx, by'), (cx, cy), (dx, dy)] _ (ptsAt4 (_root_.Go.heap_alloc_new W _)) (by simp) (by simp) (by omega)).mono ?_
  rintro e w1 ⟨rfl, H1⟩
  exact ⟨rfl, (New.alloc W _).trans' H1.out⟩

set_option maxHeartbeats 800000 in
theorem side_ok (ax ay bx by' cx cy : Int) (w : World) (hok : okB [(ax, ay), (bx, by'), (cx, cy)] = true) :
    Calls Try.prog 11 #[.agg #[.int .i64 ax, .int .i64 ay], .agg #[.int .i64 bx, .int .i64 by'], .agg #[.int .i64 cx, .int .i64 cy]] w fun e w' =>
      e = .returned (.tuple #[.int .i64 (sgn (det ax ay bx by' cx cy)), .int .i64 0]) ∧ Hid (New w w') := by
  have HO : Hid (okE [(ax, ay), (bx, by'), (cx, cy)] = 0 ∧ (Cd ax ∧ Cd ay) ∧ (Cd bx ∧ Cd by') ∧ (Cd cx ∧ Cd cy)) := ⟨by rw [okE, hok]; rfl, okB_cd hok (p := (ax, ay)) (by simp), okB_cd hok (p := (bx, by')) (by simp), okB_cd hok (p := (cx, cy)) (by simp)⟩
  clear hok
  go_enter Try.func11, Try.ntmps11
  go_wp2_with fail
  refine (check3 ax ay bx by' cx cy _ _ (by simp)).mono ?_
  rintro e w1 ⟨rfl, H1⟩
  have r1 := H1.out.rule
  have hE := HO.out.1
  go_wp2_with fail
  refine (of_any ax ay bx by' cx cy _ HO.out.2.1.1 HO.out.2.1.2 HO.out.2.2.1.1 HO.out.2.2.1.2 HO.out.2.2.2.1 HO.out.2.2.2.2).mono ?_
  rintro e w2 ⟨rfl, H2⟩
  clear r1
  go_wp2_with fail
  go_ret2
  exact ⟨rfl, ((((New.alloc _ _).alloc' _).alloc' _).trans' H1.out).trans' H2.out⟩

set_option maxHeartbeats 800000 in
theorem side_bad (ax ay bx by' cx cy : Int) (w : World) (hok : okB [(ax, ay), (bx, by'), (cx, cy)] = false) :
    Calls Try.prog 11 #[.agg #[.int .i64 ax, .int .i64 ay], .agg #[.int .i64 bx, .int .i64 by'], .agg #[.int .i64 cx, .int .i64 cy]] w fun e w' =>
      e = .returned (.tuple #[.int .i64 0, .int .i64 1]) ∧ Hid (New w w') := by
  have HO : Hid (okE [(ax, ay), (bx, by'), (cx, cy)] = 1) := by rw [Hid, okE, hok]; rfl
  clear hok
  go_enter Try.func11, Try.ntmps11
  go_wp2_with fail
  refine (check3 ax ay bx by' cx cy _ _ (by simp)).mono ?_
  rintro e w1 ⟨rfl, H1⟩
  have hE := HO.out
  go_wp2_with fail
  go_ret2
  exact ⟨rfl, (((New.alloc _ _).alloc' _).alloc' _).trans' H1.out⟩

end Go.Proofs.Ytgeoffpcmkofkaa
/- Whole numbers as lists of digits, the least first: sums, differences, products, which is the greater. -/
namespace Go.Proofs.Ytgeoffpcmkofkaa.Dg

abbrev B : Int := 1048576

/-- The number of some digits. -/
def dv : List Int → Int
  | [] => 0
  | d :: l => d + 1048576 * dv l

def Dok (ds : List Int) : Prop := ∀ d ∈ ds, 0 ≤ d ∧ d < 1048576
/-- None of the highest is 0. -/
def Tr (ds : List Int) : Prop := ∀ h : ds ≠ [], ds.getLast h ≠ 0

theorem bp (n : Nat) : (0 : Int) < B ^ n := Int.pow_pos (by decide)
theorem bs (n : Nat) : B ^ (n + 1) = 1048576 * B ^ n := by rw [Int.pow_succ, Int.mul_comm]
theorem ba (m n : Nat) : B ^ (m + n) = B ^ m * B ^ n := Int.pow_add B m n
theorem bm {m n : Nat} (h : m ≤ n) : B ^ m ≤ B ^ n := by
  obtain ⟨c, rfl⟩ := Nat.exists_eq_add_of_le h
  rw [ba]
  have h1 := bp m
  have h2 := bp c
  have : B ^ m * 1 ≤ B ^ m * B ^ c := Int.mul_le_mul_of_nonneg_left h2 (by omega)
  omega
theorem bl {m n : Nat} (h : B ^ m < B ^ n) : m < n := by
  rcases Nat.lt_or_ge m n with h1 | h1
  · exact h1
  · have := bm h1; omega

theorem dv_append (a b : List Int) : dv (a ++ b) = dv a + B ^ a.length * dv b := by
  induction a with
  | nil => simp [dv]
  | cons d l ih => simp only [List.cons_append, dv, ih, List.length_cons, bs]; grind

theorem Dok.nil : Dok [] := fun _ h => absurd h (by simp)
theorem Dok.append {a b : List Int} (ha : Dok a) (hb : Dok b) : Dok (a ++ b) := fun d hd => by
  rcases List.mem_append.1 hd with h | h
  · exact ha d h
  · exact hb d h
theorem Dok.one {d : Int} (h0 : 0 ≤ d) (h1 : d < 1048576) : Dok [d] := fun x hx => by rw [List.mem_singleton.1 hx]; exact ⟨h0, h1⟩
theorem Dok.take {a : List Int} (h : Dok a) (n : Nat) : Dok (a.take n) := fun d hd => h d (List.mem_of_mem_take hd)
theorem Dok.drop {a : List Int} (h : Dok a) (n : Nat) : Dok (a.drop n) := fun d hd => h d (List.mem_of_mem_drop hd)

theorem dv_nonneg {ds : List Int} (h : Dok ds) : 0 ≤ dv ds := by
  induction ds with
  | nil => simp [dv]
  | cons d l ih =>
    have h1 := h d (List.mem_cons_self ..)
    have h2 := ih (fun x hx => h x (List.mem_cons_of_mem _ hx))
    simp only [dv]; omega

theorem dv_lt {ds : List Int} (h : Dok ds) : dv ds < B ^ ds.length := by
  induction ds with
  | nil => simp [dv]
  | cons d l ih =>
    have h1 := h d (List.mem_cons_self ..)
    have h2 := ih (fun x hx => h x (List.mem_cons_of_mem _ hx))
    simp only [dv, List.length_cons, bs]; omega

theorem dv_split (ds : List Int) (n : Nat) (h : n ≤ ds.length) : dv ds = dv (ds.take n) + B ^ n * dv (ds.drop n) := by
  have := dv_append (ds.take n) (ds.drop n)
  rw [List.take_append_drop, List.length_take, Nat.min_eq_left h] at this
  exact this

theorem dv_drop (ds : List Int) (i : Nat) : dv (ds.drop i) = ds.getD i 0 + 1048576 * dv (ds.drop (i + 1)) := by
  by_cases h : i < ds.length
  · rw [List.drop_eq_getElem_cons h]
    simp only [dv]
    rw [List.getD_eq_getElem?_getD, List.getElem?_eq_getElem h]; rfl
  · rw [List.drop_eq_nil_of_le (by omega), List.drop_eq_nil_of_le (by omega), List.getD_eq_getElem?_getD, List.getElem?_eq_none (by omega)]; rfl

theorem getD_ok {ds : List Int} (h : Dok ds) (i : Nat) : 0 ≤ ds.getD i 0 ∧ ds.getD i 0 < 1048576 := by
  rw [List.getD_eq_getElem?_getD]
  by_cases hi : i < ds.length
  · rw [List.getElem?_eq_getElem hi]; exact h _ (List.getElem_mem hi)
  · rw [List.getElem?_eq_none (by omega)]; simp

theorem drop_last {ds : List Int} (hn : ds ≠ []) : ds.drop (ds.length - 1) = [ds.getLast hn] := by
  have hlen : 0 < ds.length := List.length_pos_iff.2 hn
  rw [List.drop_eq_getElem_cons (by omega), List.drop_eq_nil_of_le (by omega), List.getLast_eq_getElem]

/-- Of digits without 0 at the top the number is great. -/
theorem dv_ge {ds : List Int} (h : Dok ds) (ht : Tr ds) (hn : ds ≠ []) : B ^ (ds.length - 1) ≤ dv ds := by
  have h1 := ht hn
  have hlen : 0 < ds.length := List.length_pos_iff.2 hn
  have h2 := dv_split ds (ds.length - 1) (by omega)
  rw [drop_last hn] at h2
  have h3 := h _ (List.getLast_mem hn)
  have h4 := dv_nonneg (h.take (ds.length - 1))
  have h5 : B ^ (ds.length - 1) * 1 ≤ B ^ (ds.length - 1) * dv [ds.getLast hn] := by
    refine Int.mul_le_mul_of_nonneg_left ?_ (by have := bp (ds.length - 1); omega)
    simp only [dv]; omega
  omega

theorem tr_of {ds : List Int} (h : Dok ds) (hg : ds ≠ [] → B ^ (ds.length - 1) ≤ dv ds) : Tr ds := by
  intro hn h0
  have h1 := hg hn
  have hlen : 0 < ds.length := List.length_pos_iff.2 hn
  have h2 := dv_split ds (ds.length - 1) (by omega)
  rw [drop_last hn, h0] at h2
  simp only [dv] at h2
  have h3 := dv_lt (h.take (ds.length - 1))
  rw [List.length_take, Nat.min_eq_left (by omega)] at h3
  omega

theorem dv_zero {ds : List Int} (h : Dok ds) (ht : Tr ds) : dv ds = 0 ↔ ds = [] := by
  constructor
  · intro h0
    by_cases hn : ds = []
    · exact hn
    · have := dv_ge h ht hn
      have := bp (ds.length - 1)
      omega
  · rintro rfl; rfl

/-! ### Sums -/
structure AddI (a b : List Int) (i : Nat) (d : List Int) (c : Int) : Prop where
  len : d.length = i
  ok : Dok d
  c0 : 0 ≤ c
  c1 : c ≤ 1
  val : dv d + B ^ i * c + B ^ i * (dv (a.drop i) + dv (b.drop i)) = dv a + dv b
  top : i ≤ a.length ∨ i ≤ b.length ∨ B ^ (i - 1) ≤ dv a + dv b
  stop : i ≤ a.length + 1 ∨ i ≤ b.length + 1

theorem AddI.start (a b : List Int) : AddI a b 0 [] 0 := ⟨rfl, Dok.nil, by omega, by omega, by simp [dv], Or.inl (by omega), Or.inl (by omega)⟩

theorem AddI.next {a b : List Int} {i : Nat} {d : List Int} {c s : Int} (h : AddI a b i d c) (ha : Dok a) (hb : Dok b) (hgo : i < a.length ∨ i < b.length ∨ 0 < c) (hs : s = a.getD i 0 + b.getD i 0 + c) :
    AddI a b (i + 1) (d ++ [s % 1048576]) (s / 1048576) ∧ 0 ≤ s ∧ s < 2097152 := by
  have h1 := getD_ok ha i
  have h2 := getD_ok hb i
  have hc0 := h.c0
  have hc1 := h.c1
  have hsb : 0 ≤ s ∧ s < 2097152 := by omega
  refine ⟨⟨by simp [h.len], h.ok.append (Dok.one (by omega) (by omega)), by omega, by omega, ?_, ?_, ?_⟩, hsb.1, hsb.2⟩
  · have hv := h.val
    rw [dv_drop a i, dv_drop b i] at hv
    rw [dv_append, h.len, bs]
    have hsd : s = 1048576 * (s / 1048576) + s % 1048576 := by omega
    simp only [dv]
    generalize s / 1048576 = q at *
    generalize s % 1048576 = r at *
    rw [← hv]
    have : a.getD i 0 + b.getD i 0 = 1048576 * q + r - c := by omega
    generalize a.getD i 0 = x at *
    generalize b.getD i 0 = y at *
    have hx : x = 1048576 * q + r - c - y := by omega
    subst hx
    grind
  · rcases hgo with g | g | g
    · left; omega
    · right; left; omega
    · right; right
      have hv := h.val
      have h3 := dv_nonneg h.ok
      have h4 := dv_nonneg (ha.drop i)
      have h5 := dv_nonneg (hb.drop i)
      have hc : c = 1 := by omega
      subst hc
      have h6 : 0 ≤ B ^ i * (dv (a.drop i) + dv (b.drop i)) := Int.mul_nonneg (by have := bp i; omega) (by omega)
      simp only [Nat.add_sub_cancel]
      omega
  · have hst := h.stop
    rcases hgo with g | g | g
    · left; omega
    · right; omega
    · by_cases g1 : i < a.length + 1
      · left; omega
      · by_cases g2 : i < b.length + 1
        · right; omega
        · exfalso
          have hv := h.val
          rw [List.drop_eq_nil_of_le (by omega), List.drop_eq_nil_of_le (by omega)] at hv
          simp only [dv] at hv
          have h3 := dv_nonneg h.ok
          have h4 := dv_lt ha
          have h5 := dv_lt hb
          have hc : c = 1 := by omega
          subst hc
          have g3 := bm (show a.length ≤ i - 1 by omega)
          have g4 := bm (show b.length ≤ i - 1 by omega)
          have g5 := bs (i - 1)
          rw [show i - 1 + 1 = i by omega] at g5
          have g6 := bp (i - 1)
          omega

/-- At the end. -/
theorem AddI.done {a b : List Int} {i : Nat} {d : List Int} (h : AddI a b i d 0) (ha : Dok a) (hb : Dok b) (ta : Tr a) (tb : Tr b) (h1 : a.length ≤ i) (h2 : b.length ≤ i) : dv d = dv a + dv b ∧ Tr d := by
  have hv := h.val
  rw [List.drop_eq_nil_of_le h1, List.drop_eq_nil_of_le h2] at hv
  simp only [dv] at hv
  have hd : dv d = dv a + dv b := by omega
  refine ⟨hd, tr_of h.ok fun hn => ?_⟩
  have hl := h.len
  have hpos : 0 < d.length := List.length_pos_iff.2 hn
  have n1 := dv_nonneg ha
  have n2 := dv_nonneg hb
  rw [hd]
  rcases h.top with h3 | h3 | h3
  · have e : d.length = a.length := by omega
    have := dv_ge ha ta (by intro e2; rw [e2] at e; simp at e; exact hn e)
    rw [e]; omega
  · have e : d.length = b.length := by omega
    have := dv_ge hb tb (by intro e2; rw [e2] at e; simp at e; exact hn e)
    rw [e]; omega
  · rw [hl]; exact h3

/-! ### Differences -/
structure SubI (a b : List Int) (i : Nat) (d : List Int) (c : Int) : Prop where
  len : d.length = i
  ok : Dok d
  c0 : 0 ≤ c
  c1 : c ≤ 1
  val : dv d - B ^ i * c + B ^ i * (dv (a.drop i) - dv (b.drop i)) = dv a - dv b

theorem SubI.start (a b : List Int) : SubI a b 0 [] 0 := ⟨rfl, Dok.nil, by omega, by omega, by simp [dv]⟩

theorem SubI.next {a b : List Int} {i : Nat} {d : List Int} {c s t c' : Int} (h : SubI a b i d c) (ha : Dok a) (hb : Dok b) (hs : s = a.getD i 0 - b.getD i 0 - c) (ht : (s < 0 ∧ t = s + 1048576 ∧ c' = 1) ∨ (0 ≤ s ∧ t = s ∧ c' = 0)) :
    SubI a b (i + 1) (d ++ [t]) c' := by
  have h1 := getD_ok ha i
  have h2 := getD_ok hb i
  have hc0 := h.c0
  have hc1 := h.c1
  have htc : s = t - 1048576 * c' := by omega
  refine ⟨by simp [h.len], h.ok.append (Dok.one (by omega) (by omega)), by omega, by omega, ?_⟩
  have hv := h.val
  rw [dv_drop a i, dv_drop b i] at hv
  rw [dv_append, h.len, bs]
  simp only [dv]
  rw [← hv]
  generalize a.getD i 0 = x at *
  generalize b.getD i 0 = y at *
  have hx : x = t - 1048576 * c' + y + c := by omega
  subst hx
  grind

theorem SubI.done {a b d : List Int} {c : Int} (h : SubI a b a.length d c) (hb : Dok b) (hle : dv b ≤ dv a) : dv d = dv a - dv b := by
  have hv := h.val
  rw [List.drop_length] at hv
  simp only [dv] at hv
  have h1 := dv_lt h.ok
  rw [h.len] at h1
  have h2 := dv_nonneg (hb.drop a.length)
  have h3 := h.c0
  have h4 := bp a.length
  generalize dv (b.drop a.length) = y at *
  have h5 : B ^ a.length * c + B ^ a.length * y ≤ dv d := by
    have : B ^ a.length * (0 - y) = - (B ^ a.length * y) := by grind
    omega
  have h6 : B ^ a.length * (c + y) < B ^ a.length * 1 := by
    have : B ^ a.length * (c + y) = B ^ a.length * c + B ^ a.length * y := by grind
    omega
  have h7 := Int.lt_of_mul_lt_mul_left h6 (by omega)
  have hc : c = 0 := by omega
  have hy : y = 0 := by omega
  subst hc hy
  omega

/-! ### Trimming -/
theorem trim_step {ds : List Int} {n : Nat} (hn : n + 1 ≤ ds.length) (h0 : ds.getD n 0 = 0) (hv : dv (ds.take (n + 1)) = dv ds) : dv (ds.take n) = dv ds := by
  rw [List.take_succ_eq_append_getElem (by omega), dv_append] at hv
  rw [List.getD_eq_getElem?_getD, List.getElem?_eq_getElem (by omega)] at h0
  simp only [Option.getD_some] at h0
  rw [h0] at hv
  simp only [dv] at hv
  omega

theorem trim_tr {ds : List Int} {n : Nat} (hn : n ≤ ds.length) (h : n = 0 ∨ ds.getD (n - 1) 0 ≠ 0) : Tr (ds.take n) := by
  intro hne h0
  rcases h with h | h
  · subst h; simp at hne
  · have hn0 : n ≠ 0 := by rintro rfl; simp at hne
    apply h
    rw [List.getLast_eq_getElem] at h0
    rw [List.getD_eq_getElem?_getD, List.getElem?_eq_getElem (by omega)]
    simp only [Option.getD_some]
    rw [List.getElem_take] at h0
    have e : (List.take n ds).length - 1 = n - 1 := by rw [List.length_take, Nat.min_eq_left hn]
    simp only [e] at h0
    exact h0

/-! ### Which is the greater -/
theorem greater_len {a b : List Int} (ha : Dok a) (hb : Dok b) (ta : Tr a) (h : b.length < a.length) : dv b < dv a := by
  have h1 := dv_lt hb
  have h2 := dv_ge ha ta (by intro e; rw [e] at h; simp at h)
  have h3 := bm (show b.length ≤ a.length - 1 by omega)
  omega

theorem greater_at {a b : List Int} (ha : Dok a) (hb : Dok b) (hl : a.length = b.length) {i : Nat} (hi : i < a.length) (he : dv (a.drop (i + 1)) = dv (b.drop (i + 1))) (h : b.getD i 0 < a.getD i 0) : dv b < dv a := by
  have h1 := dv_split a i (by omega)
  have h2 := dv_split b i (by omega)
  rw [dv_drop a i] at h1
  rw [dv_drop b i, ← he] at h2
  have h3 := dv_lt (hb.take i)
  rw [List.length_take, Nat.min_eq_left (by omega)] at h3
  have h4 := dv_nonneg (ha.take i)
  have h5 := bp i
  generalize a.getD i 0 = x at *
  generalize b.getD i 0 = y at *
  generalize dv (a.drop (i + 1)) = z at *
  have h6 : B ^ i * (y + 1) ≤ B ^ i * x := Int.mul_le_mul_of_nonneg_left (by omega) (by omega)
  have e1 : B ^ i * (x + 1048576 * z) = B ^ i * x + B ^ i * (1048576 * z) := by grind
  have e2 : B ^ i * (y + 1048576 * z) = B ^ i * (y + 1) - B ^ i + B ^ i * (1048576 * z) := by grind
  rw [e1] at h1
  rw [e2] at h2
  omega

/-! ### Products -/
theorem dv_set {d : List Int} {j : Nat} (hj : j < d.length) (x : Int) : dv (d.set j x) = dv d + B ^ j * (x - d.getD j 0) := by
  induction d generalizing j with
  | nil => simp at hj
  | cons y l ih =>
    cases j with
    | zero => simp [dv]; omega
    | succ j =>
      have := ih (j := j) (by simpa using hj)
      simp only [List.set_cons_succ, dv, this, List.getD_cons_succ, bs]
      grind

theorem dok_set {d : List Int} (h : Dok d) (j : Nat) {x : Int} (h0 : 0 ≤ x) (h1 : x < 1048576) : Dok (d.set j x) := by
  intro y hy
  rcases List.mem_or_eq_of_mem_set hy with hy | rfl
  · exact h y hy
  · exact ⟨h0, h1⟩

theorem dv_zeros (n : Nat) : dv (List.replicate n 0) = 0 := by
  induction n with
  | zero => rfl
  | succ n ih => simp [List.replicate_succ, dv, ih]

theorem dok_zeros (n : Nat) : Dok (List.replicate n 0) := fun d hd => by
  rw [List.eq_of_mem_replicate hd]; omega

/-- At digit i of a, digit k of b. -/
structure MulI (a b : List Int) (i k : Nat) (d : List Int) (c : Int) : Prop where
  len : d.length = a.length + b.length + 1
  ok : Dok d
  c0 : 0 ≤ c
  c1 : c < 1048576
  val : dv d + B ^ (i + k) * c = dv (a.take i) * dv b + a.getD i 0 * dv (b.take k) * B ^ i

theorem MulI.start (a b : List Int) : MulI a b 0 0 (List.replicate (a.length + b.length + 1) 0) 0 :=
  ⟨by simp, dok_zeros _, by omega, by omega, by simp [dv, dv_zeros]⟩

/-- While there is something to carry the place is not past the end. -/
theorem MulI.place {a b : List Int} {i k : Nat} {d : List Int} {c : Int} (h : MulI a b i k d c) (ha : Dok a) (hb : Dok b) (hi : i < a.length) (hgo : k < b.length ∨ 0 < c) : k ≤ b.length := by
  rcases hgo with g | g
  · omega
  · by_cases hk : k ≤ b.length
    · exact hk
    · exfalso
      have hv := h.val
      rw [List.take_of_length_le (by omega : b.length ≤ k)] at hv
      have h1 := dv_nonneg h.ok
      have h2 := bp (i + k)
      have h3 : B ^ (i + k) * 1 ≤ B ^ (i + k) * c := Int.mul_le_mul_of_nonneg_left (by omega) (by omega)
      have h4 : dv (a.take (i + 1)) = dv (a.take i) + B ^ i * a.getD i 0 := by
        rw [List.take_succ_eq_append_getElem hi, dv_append, List.length_take, Nat.min_eq_left (by omega), List.getD_eq_getElem?_getD, List.getElem?_eq_getElem hi]
        simp only [dv, Option.getD_some]; grind
      have h5 := dv_lt (ha.take (i + 1))
      rw [List.length_take, Nat.min_eq_left (by omega)] at h5
      have h6 := dv_lt hb
      have h7 := dv_nonneg hb
      have h8 := dv_nonneg (ha.take (i + 1))
      have h9 : dv (a.take (i + 1)) * dv b ≤ dv (a.take (i + 1)) * B ^ b.length := Int.mul_le_mul_of_nonneg_left (by omega) h8
      have h10 : dv (a.take (i + 1)) * B ^ b.length < B ^ (i + 1) * B ^ b.length := Int.mul_lt_mul_of_pos_right h5 (bp _)
      rw [← ba] at h10
      have h11 := bm (show i + 1 + b.length ≤ i + k by omega)
      have e : dv (a.take (i + 1)) * dv b = dv (a.take i) * dv b + a.getD i 0 * dv b * B ^ i := by rw [h4]; grind
      omega

theorem MulI.next {a b : List Int} {i k : Nat} {d : List Int} {c s : Int} (h : MulI a b i k d c) (ha : Dok a) (hb : Dok b) (hi : i < a.length) (hk : k ≤ b.length) (hs : s = d.getD (i + k) 0 + a.getD i 0 * b.getD k 0 + c) :
    MulI a b i (k + 1) (d.set (i + k) (s % 1048576)) (s / 1048576) ∧ 0 ≤ s ∧ s < 1099511627776 := by
  have h1 := getD_ok ha i
  have h2 := getD_ok hb k
  have h3 := getD_ok h.ok (i + k)
  have hc0 := h.c0
  have hc1 := h.c1
  have hp : a.getD i 0 * b.getD k 0 ≤ 1048575 * 1048575 := Int.mul_le_mul (by omega) (by omega) (by omega) (by omega)
  have hp0 : 0 ≤ a.getD i 0 * b.getD k 0 := Int.mul_nonneg (by omega) (by omega)
  have hsb : 0 ≤ s ∧ s < 1099511627776 := by omega
  refine ⟨⟨by simp [h.len], dok_set h.ok _ (by omega) (by omega), by omega, by omega, ?_⟩, hsb.1, hsb.2⟩
  have hv := h.val
  have hlen := h.len
  rw [dv_set (by omega)]
  have ht : dv (b.take (k + 1)) = dv (b.take k) + B ^ k * b.getD k 0 := by
    by_cases hkb : k < b.length
    · rw [List.take_succ_eq_append_getElem hkb, dv_append, List.length_take, Nat.min_eq_left (by omega), List.getD_eq_getElem?_getD, List.getElem?_eq_getElem hkb]
      simp only [dv, Option.getD_some]; grind
    · rw [List.take_of_length_le (by omega), List.take_of_length_le (by omega), List.getD_eq_getElem?_getD, List.getElem?_eq_none (by omega)]
      simp
  rw [ht, ← Nat.add_assoc, bs]
  have hsd : s = 1048576 * (s / 1048576) + s % 1048576 := by omega
  generalize s / 1048576 = q at *
  generalize s % 1048576 = r at *
  generalize d.getD (i + k) 0 = y at *
  generalize a.getD i 0 = x at *
  generalize b.getD k 0 = z at *
  have hik := ba i k
  have hy : y = 1048576 * q + r - x * z - c := by omega
  subst hy
  have hdv : dv d = dv (a.take i) * dv b + x * dv (b.take k) * B ^ i - B ^ (i + k) * c := by omega
  rw [hdv]
  rw [hik]
  grind

theorem MulI.outer {a b : List Int} {i k : Nat} {d : List Int} (h : MulI a b i k d 0) (hi : i < a.length) (hk : b.length ≤ k) : MulI a b (i + 1) 0 d 0 := by
  refine ⟨h.len, h.ok, by omega, by omega, ?_⟩
  have hv := h.val
  rw [List.take_of_length_le hk] at hv
  have h4 : dv (a.take (i + 1)) = dv (a.take i) + B ^ i * a.getD i 0 := by
    rw [List.take_succ_eq_append_getElem hi, dv_append, List.length_take, Nat.min_eq_left (by omega), List.getD_eq_getElem?_getD, List.getElem?_eq_getElem hi]
    simp only [dv, Option.getD_some]; grind
  rw [h4]
  simp only [List.take_zero, dv]
  grind

theorem MulI.done {a b : List Int} {k : Nat} {d : List Int} (h : MulI a b a.length k d 0) : dv d = dv a * dv b := by
  have hv := h.val
  rw [List.take_length, List.getD_eq_getElem?_getD, List.getElem?_eq_none (by omega)] at hv
  simp at hv
  exact hv

end Go.Proofs.Ytgeoffpcmkofkaa.Dg
/- The walks of package plumbref: 'digit', 'trim', 'greater'. -/
namespace Go.Proofs.Ytgeoffpcmkofkaa
open Go.RowKit Fl Dg
set_option maxRecDepth 100000

/-- A list of digits in memory. -/
structure Dl (w : World) (v : Value) (ds : List Int) : Prop where
  own : w.ownsRow 0 3 1 v ds.length (ds.map (Value.int .i64))
  ok : Dok ds
  few : ds.length ≤ 1000

theorem Dl.kept {w w' : World} {v : Value} {ds : List Int} (h : Dl w v ds) (hn : New w w') : Dl w' v ds :=
  ⟨h.own.kept hn (by cases hv : v.ownBlock <;> simp), h.ok, h.few⟩

/-- What 'trim' leaves. -/
def Trimmed (w : World) (v : Value) (ds : List Int) (e : Ending) (w' : World) : Prop := ∃ (v' : Value) (ds' : List Int), e = .returned v' ∧ w = w' ∧ Hid (Dl w v' ds' ∧ dv ds' = dv ds ∧ Tr ds' ∧ ds'.length ≤ ds.length ∧ v'.ownBlock = v.ownBlock)
theorem Trimmed.mk {w : World} {ds ds' : List Int} {v v' : Value} (h1 : Dl w v' ds') (h2 : dv ds' = dv ds) (h3 : Tr ds') (h4 : ds'.length ≤ ds.length) (h5 : v'.ownBlock = v.ownBlock) : Trimmed w v ds (.returned v') w := ⟨v', ds', rfl, rfl, h1, h2, h3, h4, h5⟩

/-- Its two shapes. -/
theorem Dl.shape {w : World} {v : Value} {ds : List Int} (h : Dl w v ds) : (v = .slice none 0 0 ∧ ds = []) ∨ ∃ g cap, v = .slice (some ⟨g, 0, none⟩) ds.length cap ∧ ds.length ≤ cap ∧ cap ≤ maxLen ∧ (∀ i (hi : i < ds.length), w.cell? ⟨g, i, none⟩ = some (.int .i64 ds[i])) := by
  rcases h.own.2 with ⟨h1, h2⟩ | ⟨g, cap, cur, h1, _, h2, h3, h4, h5, h6⟩
  · exact Or.inl ⟨h1, List.eq_nil_of_length_eq_zero h2⟩
  · refine Or.inr ⟨g, cap, h1, h3, h4, fun i hi => ?_⟩
    rw [cell_of_row w g i cur 3 (0, 0) h2]
    have : (cur.toList.take (ds.length * 1))[i]? = some (.int .i64 ds[i]) := by rw [h6]; simp [hi]
    rw [List.getElem?_take_of_lt (by omega)] at this
    simpa using this

set_option maxHeartbeats 400000 in
theorem digit_any (v : Value) (ds : List Int) (i : Nat) (w : World) (h : Dl w v ds) (_hi : i ≤ 1000) :
    Calls Try.prog 58 #[v, .int .i64 i] w fun e w' => e = .returned (.int .i64 (ds.getD i 0)) ∧ w = w' := by
  have hfew := h.few
  rcases h.shape with ⟨rfl, rfl⟩ | ⟨g, cap, rfl, hc, hm, hcell⟩
  · go_enter Try.func58, Try.ntmps58
    go_wp2
    go_ret
    exact ⟨by simp, rfl⟩
  · unfold maxLen at hm
    by_cases hlt : i < ds.length
    · have hc1 := hcell i hlt
      have HD : Hid (ds.getD i 0 = ds[i]) := by rw [Hid, List.getD_eq_getElem?_getD, List.getElem?_eq_getElem hlt]; rfl
      clear hcell
      go_enter Try.func58, Try.ntmps58
      go_wp2
      go_ret
      exact ⟨by rw [HD.out]; rfl, rfl⟩
    · have HD : Hid (ds.getD i 0 = 0) := by rw [Hid, List.getD_eq_getElem?_getD, List.getElem?_eq_none (by omega)]; rfl
      clear hcell
      go_enter Try.func58, Try.ntmps58
      go_wp2
      go_ret
      exact ⟨by rw [HD.out]; rfl, rfl⟩

theorem Dl.take {w : World} {g cap : Nat} {ds : List Int} (h : Dl w (.slice (some ⟨g, 0, none⟩) ds.length cap) ds) {n : Nat} (hn : n ≤ ds.length) : Dl w (.slice (some ⟨g, 0, none⟩) n cap) (ds.take n) := by
  have hl : (ds.take n).length = n := by rw [List.length_take, Nat.min_eq_left hn]
  refine ⟨?_, h.ok.take n, by have := h.few; omega⟩
  rw [hl]
  refine ⟨by rw [List.length_map, hl, Nat.mul_one], ?_⟩
  rcases h.own.2 with ⟨h1, h2⟩ | ⟨g', cap', cur, h1, h0, h2, h3, h4, h5, h6⟩
  · cases h1
  · cases h1
    refine Or.inr ⟨g, cap, cur, rfl, h0, h2, by omega, h4, h5, ?_⟩
    have := congrArg (List.take n) h6
    rw [List.take_take, Nat.mul_one, Nat.min_eq_left hn] at this
    rw [Nat.mul_one, this, List.map_take]

theorem Dl.nil (w : World) : Dl w (.slice none 0 0) [] := ⟨World.ownsRow_nil w 0 3 1, Dok.nil, by simp⟩

set_option maxHeartbeats 800000 in
theorem trim_any (v : Value) (ds : List Int) (w : World) (h : Dl w v ds) :
    Calls Try.prog 59 #[v] w fun e w' => Trimmed w v ds e w' := by
  have hfew := h.few
  have HH : Hid (Dl w v ds) := h
  rcases h.shape with ⟨rfl, rfl⟩ | ⟨g, cap, rfl, hc, hm, hcell⟩
  · clear h
    go_enter Try.func59, Try.ntmps59
    go_wp2
    refine wp_loop_rounds 1 ?_
    rw [rounds_succ]
    go_wp2
    go_ret
    exact Trimmed.mk (Dl.nil w) rfl (fun h => absurd rfl h) (by simp) rfl
  · unfold maxLen at hm
    clear h
    go_enter Try.func59, Try.ntmps59
    go_wp2_with fail
    go_loop [3] (fun i => ∃ n : Nat, i = .int .i64 n ∧ n ≤ ds.length ∧ Hid (dv (ds.take n) = dv ds))
      (fun i => (intOf i).toNat)
    case atStart => exact ⟨ds.length, rfl, Nat.le_refl _, by rw [Hid, List.take_length]⟩
    case round =>
      obtain ⟨n, rfl, hn, H⟩ := hrel
      by_cases h0 : n = 0
      · subst h0
        clear hcell
        go_wp2_with fail
        go_ret
        exact Trimmed.mk (HH.out.take (Nat.zero_le _)) H.out (trim_tr (Nat.zero_le _) (Or.inl rfl)) (by simp) rfl
      · obtain ⟨m, rfl⟩ : ∃ m, n = m + 1 := ⟨n - 1, by omega⟩
        have hc1 := hcell m (by omega)
        have HG : Hid (ds.getD m 0 = ds[m]'(by omega)) := by rw [Hid, List.getD_eq_getElem?_getD, List.getElem?_eq_getElem (by omega)]; rfl
        clear hcell h0
        by_cases hz : ds[m]'(by omega) = 0
        · rw [hz] at hc1
          have HZ : Hid (ds[m]'(by omega) = 0) := hz
          clear hz
          go_wp2_with fail
          go_round
          case rel => exact ⟨m, by go_num, by omega, trim_step hn (HG.out.trans HZ.out) H.out⟩
          case measure => simp [intOf]
        · have hzb : (ds[m]'(by omega) == 0) = false := by simpa using hz
          have HZ : Hid (ds[m]'(by omega) ≠ 0) := hz
          clear hz
          go_wp2_with fail
          go_ret
          exact Trimmed.mk (HH.out.take hn) H.out (trim_tr hn (Or.inr (by rw [Nat.add_sub_cancel, HG.out]; exact HZ.out))) (by simp; omega) rfl

end Go.Proofs.Ytgeoffpcmkofkaa
