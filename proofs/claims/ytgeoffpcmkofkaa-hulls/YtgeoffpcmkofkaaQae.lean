/- Wg; Wh; Wi; Geo; Wj; Fo; Wk; Wl; Wm; Wn: texts laid into one. -/
import Derived.Test.YtgeoffpcmkofkaaQad
import Derived.Test.YtgeoffpcmkofkaaQac
import Derived.Deep.QuietTactic
import Derived.BigQuiet
import Derived.Test.YtgeoffpcmkofkaaQab
/- The walks of package side: 'roughApart', 'signBeyond', 'roughSide'. -/
namespace Go.Proofs.Ytgeoffpcmkofkaa
open Go.RowKit Fl
set_option maxRecDepth 100000

theorem New.refl (w : World) : New w w := World.grownBy.refl w none
theorem New.alloc (w : World) (o : Obj) : New w (w.alloc o) := World.grownBy_alloc w o none
theorem New.alloc' {w w1 : World} (h : New w w1) (o : Obj) : New w (w1.alloc o) := h.trans' (New.alloc w1 o)
theorem New.drewN {w w1 : World} (h : New w w1) (n : Nat) : New w (w1.drewN n) := ⟨h.os, h.tape, h.output, h.size, h.block⟩

/-- A coordinate. -/
def Cd (n : Int) : Prop := -9007199254740992 ≤ n ∧ n ≤ 9007199254740992

theorem Cd.co {n : Int} (h : Cd n) : Co (floatOfInt .f64 n, n) := by
  have h1 : (n.natAbs : Int) ≤ 9007199254740992 := by have := h.1; have := h.2; omega
  have e : (2 : Int) ^ 53 = 9007199254740992 := by decide
  exact ⟨F.ofInt n (by rw [e]; exact h1), h1⟩

set_option maxHeartbeats 400000 in
theorem roughApart_walk (px py fx fy : Int) (rx ry : Nat) (w : World) (h1 : Ieee.double.sub (floatOfInt .f64 px) (floatOfInt .f64 fx) = some rx) (h2 : Ieee.double.sub (floatOfInt .f64 py) (floatOfInt .f64 fy) = some ry) :
    Calls Try.prog 72 #[.agg #[.int .i64 px, .int .i64 py], .agg #[.int .i64 fx, .int .i64 fy]] w fun e w' => e = .returned (.tuple #[.float .f64 rx, .float .f64 ry]) ∧ New w w' := by
  have g1 := fsub h1 81
  have g2 := fsub h2 81
  clear h1 h2
  go_enter Try.func72, Try.ntmps72
  go_wp2
  go_quiet (fail)
  go_wp2
  go_ret2
  exact ⟨rfl, by
    refine New.drewN ?_ _
    exact (New.alloc _ _).alloc' _⟩

/-- A difference, rounded. -/
structure Df (X : Int) (r : Nat × Int) : Prop where
  word : F r.1 r.2 0
  rnd : Rnd X r.2
  small : (r.2.natAbs : Int) ≤ 36028797018963968

theorem df_of {p f : Int} (hp : Cd p) (hf : Cd f) : ∃ r : Nat × Int, Ieee.double.sub (floatOfInt .f64 p) (floatOfInt .f64 f) = some r.1 ∧ Df (p - f) r := by
  have h0 : (36028797018963968 : Int) < Big := Int.lt_trans (show (36028797018963968 : Int) < 2 ^ 56 by decide) (p2_lt_Big (by omega))
  have hs : ((p - f).natAbs : Int) ≤ 18014398509481984 := by have := hp.1; have := hp.2; have := hf.1; have := hf.2; omega
  obtain ⟨r, z, e1, q1, f1⟩ := hp.co.word.sub hf.co.word (by omega) (by simp only; omega)
  exact ⟨(r, z), e1, f1, q1, by have := q1.bd hs; simp only; omega⟩

theorem roughApart_any (px py fx fy : Int) (w : World) (h1 : Cd px) (h2 : Cd py) (h3 : Cd fx) (h4 : Cd fy) :
    Calls Try.prog 72 #[.agg #[.int .i64 px, .int .i64 py], .agg #[.int .i64 fx, .int .i64 fy]] w fun e w' => ∃ rx ry : Nat × Int, e = .returned (.tuple #[.float .f64 rx.1, .float .f64 ry.1]) ∧ Hid (New w w' ∧ Df (px - fx) rx ∧ Df (py - fy) ry) := by
  obtain ⟨rx, e1, d1⟩ := df_of h1 h3
  obtain ⟨ry, e2, d2⟩ := df_of h2 h4
  refine (roughApart_walk px py fx fy rx.1 ry.1 w e1 e2).mono ?_
  rintro e w' ⟨rfl, hn⟩
  exact ⟨rx, ry, rfl, hn, d1, d2⟩

theorem order_of {a b : Nat} {x y : Int} {k : Nat} (ha : F a x k) (hb : F b y k) : FloatKind.f64.format.order a b = some (compare x y) := ha.order hb

set_option maxHeartbeats 400000 in
theorem signBeyond_any (v s : Nat) (x S : Int) (c : Nat) (w : World) (hv : F v x 0) (hs : F s S c) :
    Calls Try.prog 73 #[.float .f64 v, .float .f64 s] w fun e w' => ∃ (sg : Int) (b : Bool), e = .returned (.tuple #[.int .i64 sg, .bool b]) ∧ w = w' ∧ Hid (b = true → (sg = 1 ∧ S < x * 2 ^ c) ∨ (sg = -1 ∧ x * 2 ^ c < -S)) := by
  have hx : F v (x * 2 ^ c) c := by have := hv.scale c; rwa [Nat.zero_add] at this
  have o1 := order_of hx hs
  have o2 := order_of hx hs.neg
  have hng := fneg
  clear hv hs hx
  by_cases h1 : S < x * 2 ^ c
  · have t1 : (FloatKind.f64.format.order v s == some .gt) = true := by rw [o1, Int.compare_eq_gt.2 h1]; rfl
    clear o1 o2
    have H1 : Hid (S < x * 2 ^ c) := h1
    clear h1
    go_enter Try.func73, Try.ntmps73
    go_wp2
    go_ret2
    exact ⟨1, true, rfl, rfl, fun _ => Or.inl ⟨rfl, H1.out⟩⟩
  · have t1 : (FloatKind.f64.format.order v s == some .gt) = false := by
      rw [o1]
      have : compare (x * 2 ^ c) S ≠ .gt := fun h => h1 (Int.compare_eq_gt.1 h)
      cases h : compare (x * 2 ^ c) S <;> simp_all
    by_cases h2 : x * 2 ^ c < -S
    · have t2 : (FloatKind.f64.format.order v (ng s) == some .lt) = true := by rw [o2, Int.compare_eq_lt.2 h2]; rfl
      have H2 : Hid (x * 2 ^ c < -S) := h2
      clear o1 o2 h1 h2
      go_enter Try.func73, Try.ntmps73
      go_wp2
      go_ret2
      exact ⟨-1, true, rfl, rfl, fun _ => Or.inr ⟨rfl, H2.out⟩⟩
    · have t2 : (FloatKind.f64.format.order v (ng s) == some .lt) = false := by
        rw [o2]
        have : compare (x * 2 ^ c) (-S) ≠ .lt := fun h => h2 (Int.compare_eq_lt.1 h)
        cases h : compare (x * 2 ^ c) (-S) <;> simp_all
      clear o1 o2 h1 h2
      go_enter Try.func73, Try.ntmps73
      go_wp2
      go_ret2
      exact ⟨0, false, rfl, rfl, fun h => absurd h (by simp)⟩

end Go.Proofs.Ytgeoffpcmkofkaa
/- The walks of package side: 'roughSide', 'exactSide', 'Of'. -/
namespace Go.Proofs.Ytgeoffpcmkofkaa
open Go.RowKit Fl
set_option maxRecDepth 100000

theorem New.rule {W w1 : World} (h : New W w1) : ∀ b o, b < W.heap.size → w1.cell? ⟨b, o, none⟩ = W.cell? ⟨b, o, none⟩ :=
  fun b o hb => World.cell?_of_block (a := ⟨b, o, none⟩) (h.block b hb (by simp))

/-- The number whose sign is the side. -/
def det (ax ay bx by' cx cy : Int) : Int := (bx - ax) * (cy - ay) - (by' - ay) * (cx - ax)

theorem slack50 : F 4382002437431492608 1 50 := by
  refine ⟨by decide, ?_⟩
  have e : Ieee.double.read 4382002437431492608 = .number false 4503599627370496 (-102) := by decide
  rw [e]
  exact Is.mk (u := 0) (v := 52) (by decide) (by decide)

theorem slack49 : F 4386506037058863104 1 49 := by
  refine ⟨by decide, ?_⟩
  have e : Ieee.double.read 4386506037058863104 = .number false 4503599627370496 (-101) := by decide
  rw [e]
  exact Is.mk (u := 0) (v := 52) (by decide) (by decide)

theorem small_Big {x : Int} {k : Nat} (h : (x.natAbs : Int) ≤ 2 ^ k) (hk : k < 900) : (x.natAbs : Int) < Big := Int.lt_of_le_of_lt h (p2_lt_Big hk)

theorem mul_le_p2 {x y : Int} {j k : Nat} (hx : (x.natAbs : Int) ≤ 2 ^ j) (hy : (y.natAbs : Int) ≤ 2 ^ k) : ((x * y).natAbs : Int) ≤ 2 ^ (j + k) := by
  rw [Int.natAbs_mul, Int.natCast_mul, p2_add]
  exact Int.mul_le_mul hx hy (by omega) (by have := p2_pos j; omega)

theorem Df.p2 {X : Int} {r : Nat × Int} (h : Df X r) : (r.2.natAbs : Int) ≤ 2 ^ 55 := by
  have e : (2 : Int) ^ 55 = 36028797018963968 := by decide
  rw [e]; exact h.small

theorem rnd_p2 {x z : Int} {k : Nat} (h : Rnd x z) (hx : (x.natAbs : Int) ≤ 2 ^ k) : (z.natAbs : Int) ≤ 2 ^ k := by
  have h1 := h.le (Rep.p2 k) (by omega)
  have h2 := h.ge (Rep.p2 k).neg (by omega)
  omega

theorem add_le_p2 {x y : Int} {k : Nat} (hx : (x.natAbs : Int) ≤ 2 ^ k) (hy : (y.natAbs : Int) ≤ 2 ^ k) : ((x + y).natAbs : Int) ≤ 2 ^ (k + 1) := by
  rw [p2_succ]; omega
theorem sub_le_p2 {x y : Int} {k : Nat} (hx : (x.natAbs : Int) ≤ 2 ^ k) (hy : (y.natAbs : Int) ≤ 2 ^ k) : ((x - y).natAbs : Int) ≤ 2 ^ (k + 1) := by
  rw [p2_succ]; omega

/-- All words of 'roughSide', and that its answer is right where it is sure. -/
theorem roughSide_words {A B C D : Int} {bx by' cx cy : Nat × Int} (h1 : Df A bx) (h2 : Df B by') (h3 : Df C cx) (h4 : Df D cy) :
    ∃ (l r d t s : Nat) (zd S : Int), Ieee.double.mul bx.1 cy.1 = some l ∧ Ieee.double.mul by'.1 cx.1 = some r ∧ Ieee.double.sub l r = some d ∧ Ieee.double.add (ab l) (ab r) = some t ∧ Ieee.double.mul 4382002437431492608 t = some s ∧
      l < 2 ^ 64 ∧ r < 2 ^ 64 ∧ F d zd 0 ∧ F s S 50 ∧ (S < zd * 2 ^ 50 → 0 < A * D - B * C) ∧ (zd * 2 ^ 50 < -S → A * D - B * C < 0) := by
  have b1 := mul_le_p2 h1.p2 h4.p2
  have b2 := mul_le_p2 h2.p2 h3.p2
  obtain ⟨l, zl, e1, q1, f1⟩ := h1.word.mul h4.word (by omega) (small_Big b1 (by omega))
  obtain ⟨r, zr, e2, q2, f2⟩ := h2.word.mul h3.word (by omega) (small_Big b2 (by omega))
  have c1 := rnd_p2 q1 b1
  have c2 := rnd_p2 q2 b2
  have b3 := sub_le_p2 c1 c2
  obtain ⟨d, zd, e3, q3, f3⟩ := f1.sub f2 (by omega) (small_Big b3 (by omega))
  have b4 : (((zl.natAbs : Int) + (zr.natAbs : Int)).natAbs : Int) ≤ 2 ^ (55 + 55 + 1) := add_le_p2 (by simpa using c1) (by simpa using c2)
  obtain ⟨t, zt, e4, q4, f4⟩ := f1.abs.add f2.abs (by omega) (small_Big b4 (by omega))
  have c4 := rnd_p2 q4 b4
  obtain ⟨s, zs, e5, q5, f5⟩ := slack50.mul f4 (by omega) (by rw [Int.one_mul]; exact small_Big c4 (by omega))
  rw [Int.one_mul] at q5
  have hzs := q5.exact q4.rep
  subst hzs
  have E1 : E (A * D) zl zl.natAbs 391 := (((E.rnd h1.rnd).mul (E.rnd h4.rnd) (by omega) (by omega) (by omega) (by omega)).round q1 (by rw [Int.natAbs_mul, Int.natCast_mul]) (by omega) (by omega)).mono (by omega)
  have E2 : E (B * C) zr zr.natAbs 391 := (((E.rnd h2.rnd).mul (E.rnd h3.rnd) (by omega) (by omega) (by omega) (by omega)).round q2 (by rw [Int.natAbs_mul, Int.natCast_mul]) (by omega) (by omega)).mono (by omega)
  have E3 := (E1.sub E2).roundS q3 (by omega) (by omega)
  have G1 := G.rnd q4 (by omega)
  have e50 : (2 : Int) ^ 50 = 1125899906842624 := by decide
  have hs := sign_sure (m := 2 ^ 50) E3 G1 (by omega) (by omega) e50
  exact ⟨l, r, d, t, s, zd, zs, e1, e2, e3, e4, e5, f1.1, f2.1, f3, f5, hs.1, hs.2⟩

set_option maxHeartbeats 800000 in
theorem roughSide_any (ax ay bx by' cx cy : Int) (w : World) (h1 : Cd ax) (h2 : Cd ay) (h3 : Cd bx) (h4 : Cd by') (h5 : Cd cx) (h6 : Cd cy) :
    Calls Try.prog 56 #[.agg #[.int .i64 ax, .int .i64 ay], .agg #[.int .i64 bx, .int .i64 by'], .agg #[.int .i64 cx, .int .i64 cy]] w fun e w' =>
      ∃ (sg : Int) (b : Bool), e = .returned (.tuple #[.int .i64 sg, .bool b]) ∧ Hid (New w w' ∧ (b = true → sg = sgn (det ax ay bx by' cx cy))) := by
  go_enter Try.func56, Try.ntmps56
  go_wp2_with fail
  refine (roughApart_any bx by' ax ay _ h3 h4 h1 h2).mono ?_
  rintro e w1 ⟨rbx, rby, rfl, H1⟩
  have r1 := H1.out.1.rule
  go_wp2_with fail
  refine (roughApart_any cx cy ax ay _ h5 h6 h1 h2).mono ?_
  rintro e w2 ⟨rcx, rcy, rfl, H2⟩
  obtain ⟨l, r, d, t, s, zd, S, e1, e2, e3, e4, e5, hl, hr, fd, fs, k1, k2⟩ := roughSide_words H1.out.2.1 H1.out.2.2 H2.out.2.1 H2.out.2.2
  have HK : Hid ((S < zd * 2 ^ 50 → 0 < det ax ay bx by' cx cy) ∧ (zd * 2 ^ 50 < -S → det ax ay bx by' cx cy < 0) ∧ New w w2) := ⟨k1, k2, ((((New.alloc _ _).alloc' _).alloc' _).trans' H1.out.1).trans' H2.out.1⟩
  have g1 := fmul e1 81
  have g2 := fmul e2 81
  have g3 := fsub e3 81
  have g4 := fadd e4 81
  have g5 := fmul e5 81
  clear k1 k2 e1 e2 e3 e4 e5 r1 H1 H2
  go_wp2_with fail
  refine (abs_walk l _ hl).mono ?_
  rintro e w3 ⟨rfl, rfl⟩
  go_wp2_with fail
  refine (abs_walk r _ hr).mono ?_
  rintro e w4 ⟨rfl, rfl⟩
  go_wp2_with fail
  refine (signBeyond_any d s zd S 50 _ fd fs).mono ?_
  rintro e w5 ⟨sg, b, rfl, rfl, H5⟩
  go_wp2_with fail
  go_ret2
  refine ⟨sg, b, rfl, HK.out.2.2, fun hb => ?_⟩
  rcases H5.out hb with ⟨rfl, h⟩ | ⟨rfl, h⟩
  · have := HK.out.1 h
    unfold sgn; rw [if_neg (by omega), if_neg (by omega)]
  · have := HK.out.2.1 h
    unfold sgn; rw [if_pos this]

end Go.Proofs.Ytgeoffpcmkofkaa
/- Expansions as numbers; the walks of package side: 'exactApart', 'exactSide', 'Of'. -/
namespace Go.Proofs.Ytgeoffpcmkofkaa
open Go.RowKit Fl
set_option maxRecDepth 100000

/-- At the head of block g lies the number v, in at most n parts, whose mass is at most 2 ^ m. -/
structure Nm (w : World) (g cap : Nat) (ws : Ws) (v : Int) (m n : Nat) : Prop where
  lst : Lst w g cap ws
  tot : total (vals ws) = v
  mass : mass (vals ws) ≤ 2 ^ m
  len : ws.length ≤ n

theorem Nm.kept {w w' : World} {g cap : Nat} {ws : Ws} {v : Int} {m n : Nat} (h : Nm w g cap ws v m n) (hn : New w w') : Nm w' g cap ws v m n :=
  ⟨h.lst.kept hn (by simp), h.tot, h.mass, h.len⟩

theorem times_nm {w : World} {g1 c1 g2 c2 : Nat} {e f : Ws} {u v : Int} {a b n m : Nat} (h1 : Nm w g1 c1 e u a n) (h2 : Nm w g2 c2 f v b m) (hnm : n * m ≤ 1024) (h40 : 40 ≤ a + b) (h800 : a + b ≤ 800) :
    Calls Try.prog 76 #[.slice (some ⟨g1, 0, none⟩) e.length c1, .slice (some ⟨g2, 0, none⟩) f.length c2] w fun e' w' =>
      ∃ (g3 cap : Nat) (out : Ws), e' = .returned (.slice (some ⟨g3, 0, none⟩) out.length cap) ∧ Hid (Nm w' g3 cap out (u * v) (a + b + 1) (2 * (n * m)) ∧ w.heap.size ≤ g3 ∧ New w w') := by
  obtain ⟨K, hK⟩ : ∃ K, a + b = 40 + K := ⟨a + b - 40, by omega⟩
  have hc : e.length * f.length ≤ n * m := Nat.mul_le_mul h1.len h2.len
  have hp := p2_pos K
  have hab : Fl.mass (vals e) * Fl.mass (vals f) ≤ 1099511627776 * 2 ^ K := by
    have : (2 : Int) ^ (a + b) = 1099511627776 * 2 ^ K := by rw [hK, p2_add]; rfl
    rw [← this, p2_add]
    exact Int.mul_le_mul h1.mass h2.mass (mass_nonneg _) (by have := p2_pos a; omega)
  have hC : ((e.length * f.length : Nat) : Int) * (4 * (e.length * f.length : Nat) + 1) * 2 ^ K ≤ 8388608 * 2 ^ K := by
    refine Int.mul_le_mul_of_nonneg_right ?_ (by omega)
    have : ((e.length * f.length : Nat) : Int) * (4 * (e.length * f.length : Nat) + 1) ≤ 1024 * 4097 := Int.mul_le_mul (by omega) (by omega) (by omega) (by omega)
    omega
  have e52 : (2 : Int) ^ 52 = 4503599627370496 := by decide
  have hpre : MulPre e f K := ⟨h1.lst.words, h2.lst.words, h1.lst.ex, h2.lst.ex, by omega, by omega, by rw [e52]; omega⟩
  refine (times_any g1 c1 g2 c2 e f K w h1.lst h2.lst hpre).mono ?_
  rintro e' w' ⟨g3, cap, out, rfl, H⟩
  refine ⟨g3, cap, out, rfl, ⟨H.out.1, ?_, ?_, ?_⟩, H.out.2.1, H.out.2.2.1⟩
  · have := H.out.2.2.2.tot
    rw [List.take_length, Int.zero_mul, Int.add_zero, h1.tot, h2.tot] at this
    exact this
  · have := H.out.2.2.2.bound
    rw [List.take_length] at this
    simp only [List.take_zero, vals, List.map_nil, Fl.mass, Int.natAbs_zero, Nat.add_zero] at this hab ⊢
    have e1 : (2 : Int) ^ (a + b + 1) = 2199023255552 * 2 ^ K := by rw [p2_succ, hK, p2_add]; grind
    rw [e1]
    omega
  · have := H.out.2.2.2.len
    omega

theorem addinv_nm {σ : Int} {w' : World} {g3 cap : Nat} {e f out : Ws} {K a : Nat} (hl : Lst w' g3 cap out) (ha : AddInv σ e f K f.length out) {u v : Int} {n m : Nat} (hu : total (vals e) = u) (hv : total (vals f) = v) (hme : mass (vals e) ≤ 2 ^ a) (hmf : mass (vals f) ≤ 2 ^ a)
    (hn : e.length ≤ n) (hm : f.length ≤ m) (hnm : n + m ≤ 4096) (hK : a = 30 + K) : Nm w' g3 cap out (u + σ * v) (a + 2) (n + m) := by
  refine ⟨hl, ?_, ?_, ?_⟩
  · rw [ha.tot, List.take_length, hu, hv]
  · have hb := ha.bound
    rw [List.drop_length] at hb
    simp only [vals, List.map_nil, Fl.mass] at hb hme hmf ⊢
    have hp := p2_pos K
    have e1 : (2 : Int) ^ a = 1073741824 * 2 ^ K := by rw [hK, p2_add]; rfl
    have e2 : (2 : Int) ^ (a + 2) = 4294967296 * 2 ^ K := by rw [p2_succ, p2_succ, e1]; grind
    have h3 : (f.length : Int) * (e.length + f.length) * 2 ^ K ≤ 16777216 * 2 ^ K := by
      refine Int.mul_le_mul_of_nonneg_right ?_ (by omega)
      have : (f.length : Int) * (e.length + f.length) ≤ 4096 * 4096 := Int.mul_le_mul (by omega) (by omega) (by omega) (by omega)
      omega
    rw [e1] at hme hmf
    rw [e2]
    omega
  · have := ha.len
    omega

theorem add_fits {e f : Ws} {K a n m : Nat} (hme : mass (vals e) ≤ 2 ^ a) (hmf : mass (vals f) ≤ 2 ^ a) (hn : e.length ≤ n) (hm : f.length ≤ m) (hnm : n + m ≤ 4096) (hK : a = 30 + K) :
    mass (vals e) + mass (vals f) + f.length * (e.length + f.length) * 2 ^ K ≤ 2 ^ 52 * 2 ^ K := by
  have hp := p2_pos K
  have e1 : (2 : Int) ^ a = 1073741824 * 2 ^ K := by rw [hK, p2_add]; rfl
  have e52 : (2 : Int) ^ 52 = 4503599627370496 := by decide
  have h3 : (f.length : Int) * (e.length + f.length) * 2 ^ K ≤ 16777216 * 2 ^ K := by
    refine Int.mul_le_mul_of_nonneg_right ?_ (by omega)
    have : (f.length : Int) * (e.length + f.length) ≤ 4096 * 4096 := Int.mul_le_mul (by omega) (by omega) (by omega) (by omega)
    omega
  rw [e1] at hme hmf
  rw [e52]
  omega

theorem plus_nm {w : World} {g1 c1 g2 c2 : Nat} {e f : Ws} {u v : Int} {a n m : Nat} (h1 : Nm w g1 c1 e u a n) (h2 : Nm w g2 c2 f v a m) (hnm : n + m ≤ 4096) (h30 : 30 ≤ a) (h800 : a ≤ 800) :
    Calls Try.prog 83 #[.slice (some ⟨g1, 0, none⟩) e.length c1, .slice (some ⟨g2, 0, none⟩) f.length c2] w fun e' w' =>
      ∃ (g3 cap : Nat) (out : Ws), e' = .returned (.slice (some ⟨g3, 0, none⟩) out.length cap) ∧ Hid (Nm w' g3 cap out (u + v) (a + 2) (n + m) ∧ w.heap.size ≤ g3 ∧ New w w') := by
  obtain ⟨K, hK⟩ : ∃ K, a = 30 + K := ⟨a - 30, by omega⟩
  have hn := h1.len
  have hm := h2.len
  refine (plus_any g1 c1 g2 c2 e f K w h1.lst h2.lst (by omega) (by omega) (add_fits h1.mass h2.mass h1.len h2.len hnm hK)).mono ?_
  rintro e' w' ⟨g3, out, rfl, H⟩
  refine ⟨g3, _, out, rfl, ?_, H.out.2.1, H.out.2.2.1⟩
  have := addinv_nm H.out.1 H.out.2.2.2 h1.tot h2.tot h1.mass h2.mass h1.len h2.len hnm hK
  rwa [Int.one_mul] at this

theorem minus_nm {w : World} {g1 c1 g2 c2 : Nat} {e f : Ws} {u v : Int} {a n m : Nat} (h1 : Nm w g1 c1 e u a n) (h2 : Nm w g2 c2 f v a m) (hnm : n + m ≤ 4096) (h30 : 30 ≤ a) (h800 : a ≤ 800) :
    Calls Try.prog 77 #[.slice (some ⟨g1, 0, none⟩) e.length c1, .slice (some ⟨g2, 0, none⟩) f.length c2] w fun e' w' =>
      ∃ (g3 cap : Nat) (out : Ws), e' = .returned (.slice (some ⟨g3, 0, none⟩) out.length cap) ∧ Hid (Nm w' g3 cap out (u - v) (a + 2) (n + m) ∧ w.heap.size ≤ g3 ∧ New w w') := by
  obtain ⟨K, hK⟩ : ∃ K, a = 30 + K := ⟨a - 30, by omega⟩
  have hn := h1.len
  have hm := h2.len
  refine (minus_any g1 c1 g2 c2 e f K w h1.lst h2.lst (by omega) (by omega) (add_fits h1.mass h2.mass h1.len h2.len hnm hK)).mono ?_
  rintro e' w' ⟨g3, out, rfl, H⟩
  refine ⟨g3, _, out, rfl, ?_, H.out.2.1, H.out.2.2.1⟩
  have := addinv_nm H.out.1 H.out.2.2.2 h1.tot h2.tot h1.mass h2.mass h1.len h2.len hnm hK
  have e1 : u + -1 * v = u - v := by omega
  rwa [e1] at this

theorem difference_nm (a b : Nat × Int) (w : World) (ha : Co a) (hb : Co b) :
    Calls Try.prog 94 #[.float .f64 a.1, .float .f64 b.1] w fun e w' =>
      ∃ (g : Nat) (out : Ws), e = .returned (.slice (some ⟨g, 0, none⟩) out.length 2) ∧ Hid (Nm w' g 2 out (a.2 - b.2) 55 2 ∧ w.heap.size ≤ g ∧ New w w') := by
  refine (difference_any a b w ha hb).mono ?_
  rintro e' w' ⟨g, out, rfl, H⟩
  exact ⟨g, out, rfl, ⟨H.out.1, H.out.2.2.2.1, H.out.2.2.2.2, H.out.1.le⟩, H.out.2.1, H.out.2.2.1⟩

set_option maxHeartbeats 400000 in
theorem exactApart_any (px py fx fy : Int) (w : World) (h1 : Cd px) (h2 : Cd py) (h3 : Cd fx) (h4 : Cd fy) :
    Calls Try.prog 75 #[.agg #[.int .i64 px, .int .i64 py], .agg #[.int .i64 fx, .int .i64 fy]] w fun e w' =>
      ∃ (g1 g2 : Nat) (X Y : Ws), e = .returned (.tuple #[.slice (some ⟨g1, 0, none⟩) X.length 2, .slice (some ⟨g2, 0, none⟩) Y.length 2]) ∧ Hid (Nm w' g1 2 X (px - fx) 55 2 ∧ Nm w' g2 2 Y (py - fy) 55 2 ∧ w.heap.size ≤ g1 ∧ w.heap.size ≤ g2 ∧ New w w') := by
  go_enter Try.func75, Try.ntmps75
  go_wp2_with fail
  refine (difference_nm (floatOfInt .f64 px, px) (floatOfInt .f64 fx, fx) _ h1.co h3.co).mono ?_
  rintro e w1 ⟨g1, X, rfl, H1⟩
  have r1 := H1.out.2.2.rule
  go_wp2_with fail
  refine (difference_nm (floatOfInt .f64 py, py) (floatOfInt .f64 fy, fy) _ h2.co h4.co).mono ?_
  rintro e w2 ⟨g2, Y, rfl, H2⟩
  have HN : Hid (New w w1 ∧ w.heap.size ≤ g1) := ⟨((New.alloc _ _).alloc' _).trans' H1.out.2.2, by have := H1.out.2.1; simp at this; omega⟩
  clear r1
  go_wp2_with fail
  go_ret2
  exact ⟨g1, g2, X, Y, rfl, H1.out.1.kept H2.out.2.2, H2.out.1, HN.out.2, Nat.le_trans HN.out.1.size H2.out.2.1, HN.out.1.trans' H2.out.2.2⟩

set_option maxHeartbeats 800000 in
theorem exactSide_any (ax ay bx by' cx cy : Int) (w : World) (h1 : Cd ax) (h2 : Cd ay) (h3 : Cd bx) (h4 : Cd by') (h5 : Cd cx) (h6 : Cd cy) :
    Calls Try.prog 57 #[.agg #[.int .i64 ax, .int .i64 ay], .agg #[.int .i64 bx, .int .i64 by'], .agg #[.int .i64 cx, .int .i64 cy]] w fun e w' =>
      e = .returned (.int .i64 (sgn (det ax ay bx by' cx cy))) ∧ Hid (New w w') := by
  go_enter Try.func57, Try.ntmps57
  go_wp2_with fail
  refine (exactApart_any bx by' ax ay _ h3 h4 h1 h2).mono ?_
  rintro e w1 ⟨g1, g2, X1, Y1, rfl, H1⟩
  have r1 := H1.out.2.2.2.2.rule
  go_wp2_with fail
  refine (exactApart_any cx cy ax ay _ h5 h6 h1 h2).mono ?_
  rintro e w2 ⟨g3, g4, X2, Y2, rfl, H2⟩
  have HN : Hid (New w w2) := ((((New.alloc _ _).alloc' _).alloc' _).trans' H1.out.2.2.2.2).trans' H2.out.2.2.2.2
  clear r1
  go_wp2_with fail
  refine (times_nm (H1.out.1.kept H2.out.2.2.2.2) H2.out.2.1 (by omega) (by omega) (by omega)).mono ?_
  rintro e w3 ⟨g5, c5, P, rfl, H3⟩
  go_wp2_with fail
  refine (times_nm ((H1.out.2.1.kept H2.out.2.2.2.2).kept H3.out.2.2) (H2.out.1.kept H3.out.2.2) (by omega) (by omega) (by omega)).mono ?_
  rintro e w4 ⟨g6, c6, Q, rfl, H4⟩
  go_wp2_with fail
  refine (minus_nm (H3.out.1.kept H4.out.2.2) H4.out.1 (by omega) (by omega) (by omega)).mono ?_
  rintro e w5 ⟨g7, c7, R, rfl, H5⟩
  go_wp2_with fail
  refine (sign_any g7 c7 R _ H5.out.1.lst).mono ?_
  rintro e w6 ⟨rfl, rfl⟩
  go_wp2_with fail
  go_ret
  exact ⟨by rw [H5.out.1.tot]; rfl, ((HN.out.trans' H3.out.2.2).trans' H4.out.2.2).trans' H5.out.2.2⟩

set_option maxHeartbeats 400000 in
theorem of_any (ax ay bx by' cx cy : Int) (w : World) (h1 : Cd ax) (h2 : Cd ay) (h3 : Cd bx) (h4 : Cd by') (h5 : Cd cx) (h6 : Cd cy) :
    Calls Try.prog 37 #[.agg #[.int .i64 ax, .int .i64 ay], .agg #[.int .i64 bx, .int .i64 by'], .agg #[.int .i64 cx, .int .i64 cy]] w fun e w' =>
      e = .returned (.int .i64 (sgn (det ax ay bx by' cx cy))) ∧ Hid (New w w') := by
  go_enter Try.func37, Try.ntmps37
  go_wp2_with fail
  refine (roughSide_any ax ay bx by' cx cy _ h1 h2 h3 h4 h5 h6).mono ?_
  rintro e w1 ⟨sg, b, rfl, H1⟩
  have r1 := H1.out.1.rule
  have HN : Hid (New w w1) := (((New.alloc _ _).alloc' _).alloc' _).trans' H1.out.1
  cases b with
  | true =>
    have hs := H1.out.2 rfl
    subst hs
    go_wp2_with fail
    go_ret
    exact ⟨rfl, HN.out⟩
  | false =>
    go_wp2_with fail
    refine (exactSide_any ax ay bx by' cx cy _ h1 h2 h3 h4 h5 h6).mono ?_
    rintro e w2 ⟨rfl, H2⟩
    clear r1
    go_wp2_with fail
    go_ret
    exact ⟨rfl, HN.out.trans' H2.out⟩

end Go.Proofs.Ytgeoffpcmkofkaa
/- Points, sides and segments over whole numbers: what two segments have in common, told twice, is the same. -/
namespace Go.Proofs.Ytgeoffpcmkofkaa
open Fl

abbrev Pt := Int × Int
/-- The determinant of three points. -/
def D (a b c : Pt) : Int := det a.1 a.2 b.1 b.2 c.1 c.2
def CdP (p : Pt) : Prop := Cd p.1 ∧ Cd p.2
/-- The place in the order by X, then Y. -/
def K (p : Pt) : Int := p.1 * 36028797018963968 + p.2
def btw (a b c : Int) : Prop := a ≤ c ∧ c ≤ b ∨ b ≤ c ∧ c ≤ a
def onP (a b p : Pt) : Prop := btw a.1 b.1 p.1 ∧ btw a.2 b.2 p.2 ∧ D a b p = 0

theorem sgn_cases (x : Int) : (x < 0 ∧ sgn x = -1) ∨ (x = 0 ∧ sgn x = 0) ∨ (0 < x ∧ sgn x = 1) := by
  unfold sgn
  rcases Int.lt_trichotomy x 0 with h | h | h
  · exact Or.inl ⟨h, by rw [if_pos h]⟩
  · exact Or.inr (Or.inl ⟨h, by rw [if_neg (by omega), if_pos h]⟩)
  · exact Or.inr (Or.inr ⟨h, by rw [if_neg (by omega), if_neg (by omega)]⟩)
theorem sgn_zero {x : Int} : sgn x = 0 ↔ x = 0 := by rcases sgn_cases x with h | h | h <;> omega
theorem sgn_pos {x : Int} : 0 < sgn x ↔ 0 < x := by rcases sgn_cases x with h | h | h <;> omega
theorem sgn_neg' {x : Int} : sgn x < 0 ↔ x < 0 := by rcases sgn_cases x with h | h | h <;> omega
theorem sgn_mul_pos {x y : Int} : 0 < sgn x * sgn y ↔ (0 < x ∧ 0 < y) ∨ (x < 0 ∧ y < 0) := by
  rcases sgn_cases x with ⟨h, e⟩ | ⟨h, e⟩ | ⟨h, e⟩ <;> rcases sgn_cases y with ⟨k, f⟩ | ⟨k, f⟩ | ⟨k, f⟩ <;> rw [e, f] <;> omega
theorem sgn_mul_neg {x y : Int} : sgn x * sgn y < 0 ↔ (0 < x ∧ y < 0) ∨ (x < 0 ∧ 0 < y) := by
  rcases sgn_cases x with ⟨h, e⟩ | ⟨h, e⟩ | ⟨h, e⟩ <;> rcases sgn_cases y with ⟨k, f⟩ | ⟨k, f⟩ | ⟨k, f⟩ <;> rw [e, f] <;> omega

theorem pt_ext {p q : Pt} (h1 : p.1 = q.1) (h2 : p.2 = q.2) : p = q := Prod.ext h1 h2
theorem K_inj {p q : Pt} (hp : CdP p) (hq : CdP q) (h : K p = K q) : p = q := by
  obtain ⟨⟨a, b⟩, c, d⟩ := hp
  obtain ⟨⟨a', b'⟩, c', d'⟩ := hq
  unfold K at h
  exact pt_ext (by omega) (by omega)
theorem K_le {p q : Pt} (hp : CdP p) (hq : CdP q) : K p ≤ K q ↔ p.1 < q.1 ∨ p.1 = q.1 ∧ p.2 ≤ q.2 := by
  obtain ⟨⟨a, b⟩, c, d⟩ := hp
  obtain ⟨⟨a', b'⟩, c', d'⟩ := hq
  unfold K
  omega

theorem mul_eq_zero' {x y : Int} (h : x * y = 0) (hx : x ≠ 0) : y = 0 := by
  rcases Int.mul_eq_zero.1 h with h | h
  · exact absurd h hx
  · exact h

/-- Three points in the line of two others lie in a line. -/
theorem line3 {a b x y z : Pt} (hab : a ≠ b) (hx : D a b x = 0) (hy : D a b y = 0) (hz : D a b z = 0) : D x y z = 0 := by
  unfold D det at *
  by_cases h1 : b.1 - a.1 = 0
  · have h2 : b.2 - a.2 ≠ 0 := fun h2 => hab (pt_ext (by omega) (by omega))
    apply mul_eq_zero' (x := b.2 - a.2) _ h2
    grind
  · apply mul_eq_zero' (x := b.1 - a.1) _ h1
    grind

/-- A point between two others. -/
def Mix (a b p : Pt) : Prop := ∃ l m : Int, 0 ≤ l ∧ 0 ≤ m ∧ 0 < l + m ∧ (l + m) * p.1 = l * a.1 + m * b.1 ∧ (l + m) * p.2 = l * a.2 + m * b.2

theorem Mix.lin {a b p : Pt} (h : Mix a b p) : ∃ l m : Int, 0 ≤ l ∧ 0 ≤ m ∧ 0 < l + m ∧ ∀ c d : Pt, (l + m) * D c d p = l * D c d a + m * D c d b := by
  obtain ⟨l, m, hl, hm, hs, e1, e2⟩ := h
  refine ⟨l, m, hl, hm, hs, fun c d => ?_⟩
  unfold D det
  grind

theorem Mix.btw1 {l m a b p : Int} (hl : 0 ≤ l) (hm : 0 ≤ m) (hs : 0 < l + m) (e : (l + m) * p = l * a + m * b) : btw a b p := by
  unfold btw
  rcases Int.le_total a b with h | h
  · left
    constructor
    · have : 0 ≤ (l + m) * (p - a) := by
        have e2 : (l + m) * (p - a) = m * (b - a) := by grind
        rw [e2]; exact Int.mul_nonneg hm (by omega)
      have := Int.nonneg_of_mul_nonneg_right this hs
      omega
    · have : 0 ≤ (l + m) * (b - p) := by
        have e2 : (l + m) * (b - p) = l * (b - a) := by grind
        rw [e2]; exact Int.mul_nonneg hl (by omega)
      have := Int.nonneg_of_mul_nonneg_right this hs
      omega
  · right
    constructor
    · have : 0 ≤ (l + m) * (p - b) := by
        have e2 : (l + m) * (p - b) = l * (a - b) := by grind
        rw [e2]; exact Int.mul_nonneg hl (by omega)
      have := Int.nonneg_of_mul_nonneg_right this hs
      omega
    · have : 0 ≤ (l + m) * (a - p) := by
        have e2 : (l + m) * (a - p) = m * (a - b) := by grind
        rw [e2]; exact Int.mul_nonneg hm (by omega)
      have := Int.nonneg_of_mul_nonneg_right this hs
      omega

theorem D_left (a b : Pt) : D a b a = 0 := by unfold D det; grind
theorem D_right (a b : Pt) : D a b b = 0 := by unfold D det; grind
theorem D_same (a p : Pt) : D a a p = 0 := by unfold D det; grind
theorem D_rot (a b c : Pt) : D b c a = D a b c := by unfold D det; grind
theorem D_swap (a b c : Pt) : D b a c = -D a b c := by unfold D det; grind

theorem Mix.on {a b p : Pt} (h : Mix a b p) : onP a b p := by
  have h' := h
  obtain ⟨l, m, hl, hm, hs, e1, e2⟩ := h
  refine ⟨btw1 hl hm hs e1, btw1 hl hm hs e2, ?_⟩
  unfold D det
  apply mul_eq_zero' (x := l + m) _ (by omega)
  grind

theorem onP.mix {a b p : Pt} (h : onP a b p) : Mix a b p := by
  obtain ⟨h1, h2, h3⟩ := h
  unfold D det at h3
  unfold btw at h1 h2
  by_cases e1 : a.1 = b.1
  · by_cases e2 : a.2 = b.2
    · exact ⟨1, 0, by omega, by omega, by omega, by omega, by omega⟩
    · have hp : p.1 = a.1 := by omega
      rcases Int.le_total a.2 b.2 with h | h
      · exact ⟨b.2 - p.2, p.2 - a.2, by omega, by omega, by omega, by rw [hp, ← e1]; grind, by grind⟩
      · exact ⟨p.2 - b.2, a.2 - p.2, by omega, by omega, by omega, by rw [hp, ← e1]; grind, by grind⟩
  · rcases Int.le_total a.1 b.1 with h | h
    · exact ⟨b.1 - p.1, p.1 - a.1, by omega, by omega, by omega, by grind, by grind⟩
    · exact ⟨p.1 - b.1, a.1 - p.1, by omega, by omega, by omega, by grind, by grind⟩

/-- On a segment: as the order tells it. -/
theorem holds_iff {a b p : Pt} (ha : CdP a) (hb : CdP b) (hp : CdP p) : onP a b p ↔ (K a ≤ K p ∧ K p ≤ K b ∨ K b ≤ K p ∧ K p ≤ K a) ∧ D a b p = 0 := by
  rw [K_le ha hp, K_le hp hb, K_le hb hp, K_le hp ha]
  constructor
  · rintro h
    refine ⟨?_, h.2.2⟩
    by_cases e1 : a.1 = b.1
    · have h1 := h.1
      have h2 := h.2.1
      unfold btw at h1 h2
      omega
    · obtain ⟨h1, h2, h3⟩ := h
      unfold D det at h3
      have k1 : p.1 = a.1 → p.2 = a.2 := by
        intro e
        have : (b.1 - a.1) * (p.2 - a.2) = 0 := by rw [e] at h3; grind
        have := mul_eq_zero' this (by omega)
        omega
      have k2 : p.1 = b.1 → p.2 = b.2 := by
        intro e
        have : (b.1 - a.1) * (p.2 - b.2) = 0 := by rw [e] at h3; grind
        have := mul_eq_zero' this (by omega)
        omega
      unfold btw at h1
      omega
  · rintro ⟨h, h3⟩
    by_cases e1 : a.1 = b.1
    · unfold onP btw
      refine ⟨by omega, by omega, h3⟩
    · apply Mix.on
      unfold D det at h3
      rcases Int.le_total a.1 b.1 with h' | h'
      · exact ⟨b.1 - p.1, p.1 - a.1, by omega, by omega, by omega, by grind, by grind⟩
      · exact ⟨p.1 - b.1, a.1 - p.1, by omega, by omega, by omega, by grind, by grind⟩

/-- Two points on the same side: nothing between them lies in the line. -/
theorem apart {a b c d p : Pt} (h : (0 < D a b c ∧ 0 < D a b d) ∨ (D a b c < 0 ∧ D a b d < 0)) (h1 : D a b p = 0) (h2 : onP c d p) : False := by
  obtain ⟨l, m, hl, hm, hs, e⟩ := h2.mix.lin
  have e := e a b
  rw [h1, Int.mul_zero] at e
  rcases h with ⟨p, q⟩ | ⟨p, q⟩
  · rcases (show 0 < l ∨ 0 < m by omega) with k | k
    · have := Int.mul_pos k p; have := Int.mul_nonneg hm (Int.le_of_lt q); omega
    · have := Int.mul_pos k q; have := Int.mul_nonneg hl (Int.le_of_lt p); omega
  · have e' : 0 = l * (- D a b c) + m * (- D a b d) := by grind
    rcases (show 0 < l ∨ 0 < m by omega) with k | k
    · have := Int.mul_pos k (show 0 < - D a b c by omega); have := Int.mul_nonneg hm (show 0 ≤ -D a b d by omega); omega
    · have := Int.mul_pos k (show 0 < - D a b d by omega); have := Int.mul_nonneg hl (show 0 ≤ -D a b c by omega); omega

/-- An end in the other's line, whose ends lie on both sides of it. -/
theorem touch {a b c d : Pt} (h0 : D a b c = 0) (hd : D a b d ≠ 0) (h1 : ¬(0 < D c d a ∧ 0 < D c d b)) (h2 : ¬(D c d a < 0 ∧ D c d b < 0)) : onP a b c := by
  have hne : ¬(D c d a = 0 ∧ D c d b = 0) := by
    rintro ⟨p, q⟩
    by_cases hcd : c = d
    · subst hcd; exact hd h0
    · exact hd (line3 hcd p q (D_right c d))
  apply Mix.on
  have i1 : (D c d a - D c d b) * c.1 = D c d a * b.1 - D c d b * a.1 := by unfold D det at *; grind
  have i2 : (D c d a - D c d b) * c.2 = D c d a * b.2 - D c d b * a.2 := by unfold D det at *; grind
  rcases (show (0 ≤ D c d a ∧ D c d b ≤ 0) ∨ (D c d a ≤ 0 ∧ 0 ≤ D c d b) by omega) with ⟨p, q⟩ | ⟨p, q⟩
  · exact ⟨-D c d b, D c d a, by omega, by omega, by omega, by grind, by grind⟩
  · exact ⟨D c d b, -D c d a, by omega, by omega, by omega, by grind, by grind⟩

instance (a b c : Int) : Decidable (btw a b c) := by unfold btw; infer_instance
instance (a b p : Pt) : Decidable (onP a b p) := by unfold onP; infer_instance
def onB (a b p : Pt) : Bool := decide (onP a b p)

/-- One more point that both segments have. -/
def bothStep (a b c d : Pt) (l : List Pt) (p : Pt) : List Pt := if (onB a b p && onB c d p) && l.all (fun q => !decide (q = p)) then l ++ [p] else l
def both (a b c d : Pt) : List Pt := [a, b, c, d].foldl (bothStep a b c d) []

def meetRef (a b c d : Pt) : Int :=
  if 1 < (both a b c d).length then 3
  else if (both a b c d).length = 1 then 2
  else if sgn (D a b c) * sgn (D a b d) < 0 ∧ sgn (D c d a) * sgn (D c d b) < 0 then 1 else 0

def lineN (a b c d : Pt) : Int :=
  if max (min (K a) (K b)) (min (K c) (K d)) < min (max (K a) (K b)) (max (K c) (K d)) then 3
  else if max (min (K a) (K b)) (min (K c) (K d)) = min (max (K a) (K b)) (max (K c) (K d)) then 2 else 0

def meetN (a b c d : Pt) : Int :=
  if D a b c = 0 ∧ D a b d = 0 ∧ D c d a = 0 ∧ D c d b = 0 then lineN a b c d
  else if 0 < sgn (D a b c) * sgn (D a b d) ∨ 0 < sgn (D c d a) * sgn (D c d b) then 0
  else if sgn (D a b c) * sgn (D a b d) < 0 ∧ sgn (D c d a) * sgn (D c d b) < 0 then 1 else 2

/-- All that lie on both. -/
def OnBoth (a b c d p : Pt) : Prop := onP a b p ∧ onP c d p

theorem bothStep_inv {a b c d : Pt} {l m : List Pt} {p : Pt} (h : ∀ q, q ∈ l ↔ q ∈ m ∧ OnBoth a b c d q) (hn : l.Nodup) :
    (∀ q, q ∈ bothStep a b c d l p ↔ q ∈ m ++ [p] ∧ OnBoth a b c d q) ∧ (bothStep a b c d l p).Nodup := by
  unfold bothStep
  by_cases h1 : onP a b p ∧ onP c d p
  · by_cases h2 : p ∈ l
    · have : l.all (fun q => !decide (q = p)) = false := by
        rw [Bool.eq_false_iff]; intro hh
        have := List.all_eq_true.1 hh p h2
        simp at this
      rw [this]
      simp only [Bool.and_false]
      refine ⟨fun q => ?_, hn⟩
      rw [if_neg (by simp)]
      rw [h, List.mem_append, List.mem_singleton]
      constructor
      · rintro ⟨x, y⟩; exact ⟨Or.inl x, y⟩
      · rintro ⟨x | x, y⟩
        · exact ⟨x, y⟩
        · subst x; exact ⟨((h _).1 h2).1, y⟩
    · have : l.all (fun q => !decide (q = p)) = true := by
        rw [List.all_eq_true]; intro q hq
        simp
        rintro rfl; exact h2 hq
      rw [this]
      have e1 : onB a b p = true := by simp [onB, h1.1]
      have e2 : onB c d p = true := by simp [onB, h1.2]
      simp only [e1, e2, Bool.and_true, if_true]
      refine ⟨fun q => ?_, ?_⟩
      · rw [List.mem_append, List.mem_append, List.mem_singleton, h]
        constructor
        · rintro (⟨x, y⟩ | x)
          · exact ⟨Or.inl x, y⟩
          · subst x; exact ⟨Or.inr rfl, h1⟩
        · rintro ⟨x | x, y⟩
          · exact Or.inl ⟨x, y⟩
          · exact Or.inr x
      · rw [List.nodup_append]
        refine ⟨hn, by simp, ?_⟩
        intro q hq r hr e
        simp at hr
        subst hr e
        exact h2 hq
  · have : (onB a b p && onB c d p) = false := by
      unfold onB
      rw [Bool.and_eq_false_iff, decide_eq_false_iff_not, decide_eq_false_iff_not]
      rcases Classical.em (onP a b p) with x | x
      · exact Or.inr fun y => h1 ⟨x, y⟩
      · exact Or.inl x
    rw [this, Bool.false_and, if_neg (by simp)]
    refine ⟨fun q => ?_, hn⟩
    rw [h, List.mem_append, List.mem_singleton]
    constructor
    · rintro ⟨x, y⟩; exact ⟨Or.inl x, y⟩
    · rintro ⟨x | x, y⟩
      · exact ⟨x, y⟩
      · subst x; exact absurd y h1

theorem both_inv (a b c d : Pt) : (∀ q, q ∈ both a b c d ↔ q ∈ [a, b, c, d] ∧ OnBoth a b c d q) ∧ (both a b c d).Nodup := by
  have h0 : ∀ q, q ∈ ([] : List Pt) ↔ q ∈ ([] : List Pt) ∧ OnBoth a b c d q := by simp
  have h1 := bothStep_inv (p := a) h0 (by simp)
  have h2 := bothStep_inv (p := b) h1.1 h1.2
  have h3 := bothStep_inv (p := c) h2.1 h2.2
  have h4 := bothStep_inv (p := d) h3.1 h3.2
  exact h4

theorem len_two {l : List Pt} {p q : Pt} (hp : p ∈ l) (hq : q ∈ l) (h : p ≠ q) : 1 < l.length := by
  match l, hp, hq with
  | [x], hp, hq => simp at hp hq; exact absurd (hp.trans hq.symm) h
  | x :: y :: l, _, _ => simp
theorem len_one {l : List Pt} {p : Pt} (hn : l.Nodup) (hp : p ∈ l) (h : ∀ q, q ∈ l → q = p) : l.length = 1 := by
  match l, hn, hp, h with
  | [x], _, _, _ => rfl
  | x :: y :: l, hn, _, h =>
    have e1 := h x (by simp)
    have e2 := h y (by simp)
    subst e1 e2
    simp at hn
theorem len_none {l : List Pt} (h : ∀ q, q ∉ l) : l.length = 0 := by
  match l, h with
  | [], _ => rfl
  | x :: l, h => exact absurd (by simp) (h x)

theorem meet_same {a b c d : Pt} (ha : CdP a) (hb : CdP b) (hc : CdP c) (hd : CdP d) : meetN a b c d = meetRef a b c d := by
  obtain ⟨hm, hn⟩ := both_inv a b c d
  unfold meetN meetRef
  by_cases hz : D a b c = 0 ∧ D a b d = 0 ∧ D c d a = 0 ∧ D c d b = 0
  · rw [if_pos hz]
    obtain ⟨z1, z2, z3, z4⟩ := hz
    have hall : ∀ q ∈ [a, b, c, d], CdP q ∧ D a b q = 0 ∧ D c d q = 0 := by
      intro q hq
      simp at hq
      rcases hq with rfl | rfl | rfl | rfl
      · exact ⟨ha, D_left _ _, z3⟩
      · exact ⟨hb, D_right _ _, z4⟩
      · exact ⟨hc, z1, D_left _ _⟩
      · exact ⟨hd, z2, D_right _ _⟩
    have hk : ∀ q, q ∈ both a b c d ↔ q ∈ [a, b, c, d] ∧ max (min (K a) (K b)) (min (K c) (K d)) ≤ K q ∧ K q ≤ min (max (K a) (K b)) (max (K c) (K d)) := by
      intro q
      rw [hm]
      constructor
      · rintro ⟨x, y1, y2⟩
        refine ⟨x, ?_⟩
        have h1 := ((holds_iff ha hb (hall q x).1).1 y1).1
        have h2 := ((holds_iff hc hd (hall q x).1).1 y2).1
        omega
      · rintro ⟨x, y⟩
        refine ⟨x, (holds_iff ha hb (hall q x).1).2 ⟨by omega, (hall q x).2.1⟩, (holds_iff hc hd (hall q x).1).2 ⟨by omega, (hall q x).2.2⟩⟩
    have e1 : ∃ p ∈ [a, b, c, d], K p = max (min (K a) (K b)) (min (K c) (K d)) := by
      rcases (show K a = max (min (K a) (K b)) (min (K c) (K d)) ∨ K b = max (min (K a) (K b)) (min (K c) (K d)) ∨ K c = max (min (K a) (K b)) (min (K c) (K d)) ∨ K d = max (min (K a) (K b)) (min (K c) (K d)) by omega) with h | h | h | h
      · exact ⟨a, by simp, h⟩
      · exact ⟨b, by simp, h⟩
      · exact ⟨c, by simp, h⟩
      · exact ⟨d, by simp, h⟩
    have e2 : ∃ p ∈ [a, b, c, d], K p = min (max (K a) (K b)) (max (K c) (K d)) := by
      rcases (show K a = min (max (K a) (K b)) (max (K c) (K d)) ∨ K b = min (max (K a) (K b)) (max (K c) (K d)) ∨ K c = min (max (K a) (K b)) (max (K c) (K d)) ∨ K d = min (max (K a) (K b)) (max (K c) (K d)) by omega) with h | h | h | h
      · exact ⟨a, by simp, h⟩
      · exact ⟨b, by simp, h⟩
      · exact ⟨c, by simp, h⟩
      · exact ⟨d, by simp, h⟩
    obtain ⟨p, p1, p2⟩ := e1
    obtain ⟨q, q1, q2⟩ := e2
    unfold lineN
    generalize max (min (K a) (K b)) (min (K c) (K d)) = F at *
    generalize min (max (K a) (K b)) (max (K c) (K d)) = L at *
    rcases Int.lt_trichotomy F L with h | h | h
    · rw [if_pos h, if_pos (len_two ((hk p).2 ⟨p1, by omega⟩) ((hk q).2 ⟨q1, by omega⟩) (by rintro rfl; omega))]
    · have : (both a b c d).length = 1 := len_one hn ((hk p).2 ⟨p1, by omega⟩) (fun r hr => by
        have := (hk r).1 hr
        exact K_inj (hall r this.1).1 (hall p p1).1 (by omega))
      rw [if_neg (by omega), if_pos h, if_neg (by omega), if_pos this]
    · have : (both a b c d).length = 0 := len_none (fun r hr => by have := (hk r).1 hr; omega)
      rw [if_neg (by omega), if_neg (by omega), if_neg (by omega), if_neg (by omega), if_neg ?_]
      rw [z1, z2]
      simp [sgn]
  · rw [if_neg hz]
    have h2 : ∀ p q, p ∈ both a b c d → q ∈ both a b c d → p = q := by
      intro p q hp hq
      have hp := ((hm p).1 hp).2
      have hq := ((hm q).1 hq).2
      apply Classical.byContradiction
      intro hne
      have same : ∀ x y : Pt, onP x y p → onP x y q → x ≠ y := by
        rintro x y h1 h2 rfl
        have a1 := h1.1; have a2 := h1.2.1; have b1 := h2.1; have b2 := h2.2.1
        unfold btw at a1 a2 b1 b2
        exact hne (pt_ext (by omega) (by omega))
      have n1 := same a b hp.1 hq.1
      have n2 := same c d hp.2 hq.2
      have la := line3 n1 hp.1.2.2 hq.1.2.2 (D_left a b)
      have lb := line3 n1 hp.1.2.2 hq.1.2.2 (D_right a b)
      have lc := line3 n2 hp.2.2.2 hq.2.2.2 (D_left c d)
      have ld := line3 n2 hp.2.2.2 hq.2.2.2 (D_right c d)
      exact hz ⟨line3 hne la lb lc, line3 hne la lb ld, line3 hne lc ld la, line3 hne lc ld lb⟩
    by_cases g1 : 0 < sgn (D a b c) * sgn (D a b d) ∨ 0 < sgn (D c d a) * sgn (D c d b)
    · rw [if_pos g1]
      have : (both a b c d).length = 0 := len_none (fun r hr => by
        have hr := ((hm r).1 hr).2
        rcases g1 with g | g
        · exact apart (sgn_mul_pos.1 g) hr.1.2.2 hr.2
        · exact apart (sgn_mul_pos.1 g) hr.2.2.2 hr.1)
      rw [if_neg (by omega), if_neg (by omega), if_neg ?_]
      omega
    · rw [if_neg g1]
      by_cases g2 : sgn (D a b c) * sgn (D a b d) < 0 ∧ sgn (D c d a) * sgn (D c d b) < 0
      · rw [if_pos g2]
        have g3 := sgn_mul_neg.1 g2.1
        have g4 := sgn_mul_neg.1 g2.2
        have : (both a b c d).length = 0 := len_none (fun r hr => by
          obtain ⟨hr0, hr⟩ := (hm r).1 hr
          have d1 := hr.1.2.2
          have d2 := hr.2.2.2
          simp at hr0
          rcases hr0 with rfl | rfl | rfl | rfl <;> omega)
        rw [if_neg (by omega), if_neg (by omega), if_pos g2]
      · rw [if_neg g2]
        have g3 : ¬(0 < sgn (D a b c) * sgn (D a b d)) := fun h => g1 (Or.inl h)
        have g4 : ¬(0 < sgn (D c d a) * sgn (D c d b)) := fun h => g1 (Or.inr h)
        rw [sgn_mul_pos] at g3 g4
        rw [sgn_mul_neg, sgn_mul_neg] at g2
        have ex : ∃ p, p ∈ both a b c d := by
          have sw : ∀ x y z : Pt, D x y z = 0 → D y x z = 0 := fun x y z h => by rw [D_swap, h]; rfl
          have hA : onP a b a := ⟨by unfold btw; omega, by unfold btw; omega, D_left _ _⟩
          have hB : onP a b b := ⟨by unfold btw; omega, by unfold btw; omega, D_right _ _⟩
          have hC : onP c d c := ⟨by unfold btw; omega, by unfold btw; omega, D_left _ _⟩
          have hD : onP c d d := ⟨by unfold btw; omega, by unfold btw; omega, D_right _ _⟩
          have key : ∀ a b c d : Pt, ¬(D a b c = 0 ∧ D a b d = 0 ∧ D c d a = 0 ∧ D c d b = 0) → ¬(0 < D c d a ∧ 0 < D c d b ∨ D c d a < 0 ∧ D c d b < 0) → D a b c = 0 → onP a b c := by
            intro a b c d hz hg h0
            apply touch (d := d) h0 _ (fun h => hg (Or.inl h)) (fun h => hg (Or.inr h))
            intro h1
            by_cases hab : a = b
            · subst hab
              apply hz
              refine ⟨h0, h1, ?_, ?_⟩ <;> omega
            · exact hz ⟨h0, h1, line3 hab h0 h1 (D_left a b), line3 hab h0 h1 (D_right a b)⟩
          rcases (show D a b c = 0 ∨ D a b d = 0 ∨ D c d a = 0 ∨ D c d b = 0 by omega) with h | h | h | h
          · exact ⟨c, (hm c).2 ⟨by simp, key a b c d hz g4 h, hC⟩⟩
          · refine ⟨d, (hm d).2 ⟨by simp, key a b d c ?_ ?_ h, hD⟩⟩
            · rw [D_swap c d a, D_swap c d b]; omega
            · rw [D_swap c d a, D_swap c d b]; omega
          · exact ⟨a, (hm a).2 ⟨by simp, hA, key c d a b (by omega) g3 h⟩⟩
          · refine ⟨b, (hm b).2 ⟨by simp, hB, key c d b a ?_ ?_ h⟩⟩
            · rw [D_swap a b c, D_swap a b d]; omega
            · rw [D_swap a b c, D_swap a b d]; omega
        obtain ⟨p, hp⟩ := ex
        have : (both a b c d).length = 1 := len_one hn hp (fun q hq => h2 q p hq hp)
        rw [if_neg (by omega), if_pos this]

end Go.Proofs.Ytgeoffpcmkofkaa
/- The walks of 'isCoord', 'checkPoints', 'Side' of package plumb. -/
namespace Go.Proofs.Ytgeoffpcmkofkaa
open Go.RowKit Fl
set_option maxRecDepth 100000

def cdB (n : Int) : Bool := decide (-9007199254740992 ≤ n) && decide (n ≤ 9007199254740992)
theorem cdB_iff {n : Int} : cdB n = true ↔ Cd n := by simp [cdB, Cd]

set_option maxHeartbeats 400000 in
theorem isCoord_any (n : Int) (w : World) : Calls Try.prog 55 #[.int .i64 n] w fun e w' => e = .returned (.bool (cdB n)) ∧ w = w' := by
  by_cases h1 : -9007199254740992 ≤ n
  · by_cases h2 : n ≤ 9007199254740992
    · have hb : cdB n = true := by simp [cdB, h1, h2]
      rw [hb]
      go_enter Try.func55, Try.ntmps55
      go_wp2
      go_ret
      exact ⟨rfl, rfl⟩
    · have hb : cdB n = false := by simp [cdB, h2]
      rw [hb]
      go_enter Try.func55, Try.ntmps55
      go_wp2
      go_ret
      exact ⟨rfl, rfl⟩
  · have hb : cdB n = false := by simp [cdB, h1]
    rw [hb]
    go_enter Try.func55, Try.ntmps55
    go_wp2
    go_ret
    exact ⟨rfl, rfl⟩

abbrev Pts := List (Int × Int)
/-- All coordinates may be. -/
def okB (l : Pts) : Bool := l.all fun p => cdB p.1 && cdB p.2
def okE (l : Pts) : Int := if okB l then 0 else 1

/-- The points lie from the cell off of block g on. -/
def PtsAt (w : World) (g off : Nat) (l : Pts) : Prop := ∀ i (h : i < l.length), w.cell? ⟨g, off + i * 2, none⟩ = some (.int .i64 l[i].1) ∧ w.cell? ⟨g, off + i * 2 + 1, none⟩ = some (.int .i64 l[i].2)

theorem PtsAt.kept {w w' : World} {g off : Nat} {l : Pts} (h : PtsAt w g off l) (hg : g < w.heap.size) (hn : New w w') : PtsAt w' g off l := by
  intro i hi
  rw [hn.rule g _ hg, hn.rule g _ hg]
  exact h i hi

theorem okB_take {l : Pts} {k : Nat} (hk : k < l.length) (h : okB (l.take k) = true) (h1 : cdB l[k].1 = true) (h2 : cdB l[k].2 = true) : okB (l.take (k + 1)) = true := by
  unfold okB at h ⊢
  rw [List.take_succ_eq_append_getElem hk, List.all_append, h]
  simp [h1, h2]

theorem okB_bad {l : Pts} {k : Nat} (hk : k < l.length) (h : cdB l[k].1 = false ∨ cdB l[k].2 = false) : okB l = false := by
  rw [Bool.eq_false_iff]
  intro hh
  have := List.all_eq_true.1 hh l[k] (List.getElem_mem hk)
  simp at this
  rcases h with h | h <;> simp [h] at this

set_option maxHeartbeats 800000 in
theorem checkPoints_len (g off cap : Nat) (l : Pts) (w : World) (h : PtsAt w g off l) (hg : g < w.heap.size) (hs : l.length ≤ 100000000000000) :
    Calls Try.prog 36 #[.slice (some ⟨g, off, none⟩) l.length cap] w fun e w' => e = .returned (.int .i64 (okE l)) ∧ Hid (New w w') := by
  go_enter Try.func36, Try.ntmps36
  go_wp2_with fail
  go_loopw [7] (fun i wr => ∃ k : Nat, i = .int .i64 k ∧ k ≤ l.length ∧ Hid (New w wr ∧ okB (l.take k) = true))
    (fun i _ => l.length - (intOf i).toNat)
  case atStart => exact ⟨0, rfl, Nat.zero_le _, New.refl _, rfl⟩
  case round =>
    obtain ⟨k, rfl, hle, H⟩ := hrel
    by_cases hk : k < l.length
    · have hc1 := ((h.kept hg H.out.1) k hk).1
      have hc2 := ((h.kept hg H.out.1) k hk).2
      go_wp2_with fail
      refine (isCoord_any l[k].1 _).mono ?_
      rintro e w1 ⟨rfl, rfl⟩
      cases hb1 : cdB l[k].1 with
      | false =>
        go_wp2_with fail
        go_ret
        exact ⟨by rw [okE, okB_bad hk (Or.inl hb1)]; rfl, H.out.1.alloc' _⟩
      | true =>
        go_wp2_with fail
        refine (isCoord_any l[k].2 _).mono ?_
        rintro e w1 ⟨rfl, rfl⟩
        cases hb2 : cdB l[k].2 with
        | false =>
          go_wp2_with fail
          go_ret
          exact ⟨by rw [okE, okB_bad hk (Or.inr hb2)]; rfl, H.out.1.alloc' _⟩
        | true =>
          go_wp2_with fail
          go_roundw
          case rel => exact ⟨k + 1, by go_num, hk, H.out.1.alloc' _, okB_take hk H.out.2 hb1 hb2⟩
          case measure => simp [intOf]; omega
    · have hk2 : k = l.length := by omega
      subst hk2
      have hok : okB l = true := by have := H.out.2; rwa [List.take_length] at this
      have HO : Hid (okB l = true) := hok
      clear hok
      go_wp2_with fail
      go_ret
      exact ⟨by rw [okE, HO.out]; rfl, H.out.1⟩
theorem checkPoints_any (g off cap : Nat) (l : Pts) (w : World) (h : PtsAt w g off l) (hg : g < w.heap.size) (hc : l.length ≤ cap) (hs : cap ≤ 100000000000000) :
    Calls Try.prog 36 #[.slice (some ⟨g, off, none⟩) l.length cap] w fun e w' => e = .returned (.int .i64 (okE l)) ∧ Hid (New w w') := checkPoints_len g off cap l w h hg (by omega)

/-- Points written out. -/
theorem ptsAt3 {w : World} {g : Nat} {ax ay bx by' cx cy : Int} (h : w.heap[g]? = some (.cells #[.int .i64 ax, .int .i64 ay, .int .i64 bx, .int .i64 by', .int .i64 cx, .int .i64 cy] 23 (0, 0))) : PtsAt w g 0 [(ax, ay), (bx, by'), (cx, cy)] := by
  intro i hi
  rw [cell_of_row w g _ _ 23 (0, 0) h, cell_of_row w g _ _ 23 (0, 0) h]
  match i, hi with
  | 0, _ => exact ⟨rfl, rfl⟩
  | 1, _ => exact ⟨rfl, rfl⟩
  | 2, _ => exact ⟨rfl, rfl⟩

theorem ptsAt4 {w : World} {g : Nat} {ax ay bx by' cx cy dx dy : Int} (h : w.heap[g]? = some (.cells #[.int .i64 ax, .int .i64 ay, .int .i64 bx, .int .i64 by', .int .i64 cx, .int .i64 cy, .int .i64 dx, .int .i64 dy] 23 (0, 0))) : PtsAt w g 0 [(ax, ay), (bx, by'), (cx, cy), (dx, dy)] := by
  intro i hi
  rw [cell_of_row w g _ _ 23 (0, 0) h, cell_of_row w g _ _ 23 (0, 0) h]
  match i, hi with
  | 0, _ => exact ⟨rfl, rfl⟩
  | 1, _ => exact ⟨rfl, rfl⟩
  | 2, _ => exact ⟨rfl, rfl⟩
  | 3, _ => exact ⟨rfl, rfl⟩

theorem okB_cd {l : Pts} (h : okB l = true) {p : Int × Int} (hp : p ∈ l) : Cd p.1 ∧ Cd p.2 := by
  have := List.all_eq_true.1 h p hp
  simp only [Bool.and_eq_true] at this
  exact ⟨cdB_iff.1 this.1, cdB_iff.1 this.2⟩

theorem check3 (ax ay bx by' cx cy : Int) (W : World) (g : Nat) (hg : g = W.heap.size) :
    Calls Try.prog 36 #[.slice (some ⟨g, 0, none⟩) 3 3] (W.alloc (.cells #[.int .i64 ax, .int .i64 ay, .int .i64 bx, .int .i64 by', .int .i64 cx, .int .i64 cy] 23)) fun e w' =>
      e = .returned (.int .i64 (okE [(ax, ay), (bx, by'), (cx, cy)])) ∧ Hid (New W w') := by
  subst hg
  refine (checkPoints_any W.heap.size 0 3 [(ax, ay), (bx, by'), (cx, cy)] _ (ptsAt3 (_root_.Go.heap_alloc_new W _)) (by simp) (by simp) (by omega)).mono ?_
  rintro e w1 ⟨rfl, H1⟩
  exact ⟨rfl, (New.alloc W _).trans' H1.out⟩

theorem check4 (ax ay bx by' cx cy dx dy : Int) (W : World) (g : Nat) (hg : g = W.heap.size) :
    Calls Try.prog 36 #[.slice (some ⟨g, 0, none⟩) 4 4] (W.alloc (.cells #[.int .i64 ax, .int .i64 ay, .int .i64 bx, .int .i64 by', .int .i64 cx, .int .i64 cy, .int .i64 dx, .int .i64 dy] 23)) fun e w' =>
      e = .returned (.int .i64 (okE [(ax, ay), (bx, by'), (cx, cy), (dx, dy)])) ∧ Hid (New W w') := by
  subst hg
  refine (checkPoints_any W.heap.size 0 4 [(ax, ay), (bx, by'), (cx, cy), (dx, dy)] _ (ptsAt4 (_root_.Go.heap_alloc_new W _)) (by simp) (by simp) (by omega)).mono ?_
  rintro e w1 ⟨rfl, H1⟩
  exact ⟨rfl, (New.alloc W _).trans' H1.out⟩

set_option maxHeartbeats 800000 in
theorem side_ok (ax ay bx by' cx cy : Int) (w : World) (hok : okB [(ax, ay), (bx, by'), (cx, cy)] = true) :
    Calls Try.prog 11 #[.agg #[.int .i64 ax, .int .i64 ay], .agg #[.int .i64 bx, .int .i64 by'], .agg #[.int .i64 cx, .int .i64 cy]] w fun e w' =>
      e = .returned (.tuple #[.int .i64 (sgn (det ax ay bx by' cx cy)), .int .i64 0]) ∧ Hid (New w w') := by
  have HO : Hid (okE [(ax, ay), (bx, by'), (cx, cy)] = 0 ∧ (Cd ax ∧ Cd ay) ∧ (Cd bx ∧ Cd by') ∧ (Cd cx ∧ Cd cy)) := ⟨by rw [okE, hok]; rfl, okB_cd hok (p := (ax, ay)) (by simp), okB_cd hok (p := (bx, by')) (by simp), okB_cd hok (p := (cx, cy)) (by simp)⟩
  clear hok
  go_enter Try.func11, Try.ntmps11
  go_wp2_with fail
  refine (check3 ax ay bx by' cx cy _ _ (by simp)).mono ?_
  rintro e w1 ⟨rfl, H1⟩
  have r1 := H1.out.rule
  have hE := HO.out.1
  go_wp2_with fail
  refine (of_any ax ay bx by' cx cy _ HO.out.2.1.1 HO.out.2.1.2 HO.out.2.2.1.1 HO.out.2.2.1.2 HO.out.2.2.2.1 HO.out.2.2.2.2).mono ?_
  rintro e w2 ⟨rfl, H2⟩
  clear r1
  go_wp2_with fail
  go_ret2
  exact ⟨rfl, ((((New.alloc _ _).alloc' _).alloc' _).trans' H1.out).trans' H2.out⟩

set_option maxHeartbeats 800000 in
theorem side_bad (ax ay bx by' cx cy : Int) (w : World) (hok : okB [(ax, ay), (bx, by'), (cx, cy)] = false) :
    Calls Try.prog 11 #[.agg #[.int .i64 ax, .int .i64 ay], .agg #[.int .i64 bx, .int .i64 by'], .agg #[.int .i64 cx, .int .i64 cy]] w fun e w' =>
      e = .returned (.tuple #[.int .i64 0, .int .i64 1]) ∧ Hid (New w w') := by
  have HO : Hid (okE [(ax, ay), (bx, by'), (cx, cy)] = 1) := by rw [Hid, okE, hok]; rfl
  clear hok
  go_enter Try.func11, Try.ntmps11
  go_wp2_with fail
  refine (check3 ax ay bx by' cx cy _ _ (by simp)).mono ?_
  rintro e w1 ⟨rfl, H1⟩
  have hE := HO.out
  go_wp2_with fail
  go_ret2
  exact ⟨rfl, (((New.alloc _ _).alloc' _).alloc' _).trans' H1.out⟩

end Go.Proofs.Ytgeoffpcmkofkaa
/- Small facts of memory. -/
namespace Go.Proofs.Ytgeoffpcmkofkaa
open Go.RowKit Fl
set_option maxRecDepth 100000

theorem Try.info3 : (Try.prog.info? 3).map (fun i => (i.zero, i.size, i.bytes)) = some (some (.int .i64 0), 1, 8) := by kernel_rfl

theorem pair_cell0 {w : World} {b : Nat} {x y : Value} {t : TypeId} (h : w.heap[b]? = some (.cells #[x, y] t (0, 0))) : w.cell? ⟨b, 0, none⟩ = some x := by simp [World.cell?, h]
theorem pair_cell1 {w : World} {b : Nat} {x y : Value} {t : TypeId} (h : w.heap[b]? = some (.cells #[x, y] t (0, 0))) : w.cell? ⟨b, 1, none⟩ = some y := by simp [World.cell?, h]
theorem pair_free {w : World} {b o : Nat} {x y : Value} {t : TypeId} (h : w.heap[b]? = some (.cells #[x, y] t (0, 0))) : w.frozen? ⟨b, o, none⟩ = false := by simp [World.frozen?, h]
theorem pair_set1 {w : World} {b : Nat} {x y u : Value} {t : TypeId} (h : w.heap[b]? = some (.cells #[x, y] t (0, 0))) : (w.setCell ⟨b, 1, none⟩ u).heap[b]? = some (.cells #[x, u] t (0, 0)) := by
  have hlt := lt_of_block h
  have h' : w.heap[b] = .cells #[x, y] t (0, 0) := by simpa [Array.getElem?_eq_getElem hlt] using h
  show (w.heap.modify b _)[b]? = _
  rw [Array.getElem?_eq_getElem (by simpa using hlt), Array.getElem_modify_self, h']
  rfl
theorem pair_set0 {w : World} {b : Nat} {x y u : Value} {t : TypeId} (h : w.heap[b]? = some (.cells #[x, y] t (0, 0))) : (w.setCell ⟨b, 0, none⟩ u).heap[b]? = some (.cells #[u, y] t (0, 0)) := by
  have hlt := lt_of_block h
  have h' : w.heap[b] = .cells #[x, y] t (0, 0) := by simpa [Array.getElem?_eq_getElem hlt] using h
  show (w.heap.modify b _)[b]? = _
  rw [Array.getElem?_eq_getElem (by simpa using hlt), Array.getElem_modify_self, h']
  rfl

theorem New.frule {W w1 : World} (h : New W w1) : ∀ b o, b < W.heap.size → w1.frozen? ⟨b, o, none⟩ = W.frozen? ⟨b, o, none⟩ :=
  fun b o hb => World.frozen?_of_block (a := ⟨b, o, none⟩) (h.block b hb (by simp))
theorem New.drew {w w1 : World} (h : New w w1) : New w w1.drew := h.drewN 1

end Go.Proofs.Ytgeoffpcmkofkaa
/- The walks of package plumbref: 'digit', 'trim', 'greater'. -/
namespace Go.Proofs.Ytgeoffpcmkofkaa
open Go.RowKit Fl Dg
set_option maxRecDepth 100000

/-- A list of digits in memory. -/
structure Dl (w : World) (v : Value) (ds : List Int) : Prop where
  own : w.ownsRow 0 3 1 v ds.length (ds.map (Value.int .i64))
  ok : Dok ds
  few : ds.length ≤ 1000

theorem Dl.kept {w w' : World} {v : Value} {ds : List Int} (h : Dl w v ds) (hn : New w w') : Dl w' v ds :=
  ⟨h.own.kept hn (by cases hv : v.ownBlock <;> simp), h.ok, h.few⟩

/-- What 'trim' leaves. -/
def Trimmed (w : World) (v : Value) (ds : List Int) (e : Ending) (w' : World) : Prop := ∃ (v' : Value) (ds' : List Int), e = .returned v' ∧ w = w' ∧ Hid (Dl w v' ds' ∧ dv ds' = dv ds ∧ Tr ds' ∧ ds'.length ≤ ds.length ∧ v'.ownBlock = v.ownBlock)
theorem Trimmed.mk {w : World} {ds ds' : List Int} {v v' : Value} (h1 : Dl w v' ds') (h2 : dv ds' = dv ds) (h3 : Tr ds') (h4 : ds'.length ≤ ds.length) (h5 : v'.ownBlock = v.ownBlock) : Trimmed w v ds (.returned v') w := ⟨v', ds', rfl, rfl, h1, h2, h3, h4, h5⟩

/-- Its two shapes. -/
theorem Dl.shape {w : World} {v : Value} {ds : List Int} (h : Dl w v ds) : (v = .slice none 0 0 ∧ ds = []) ∨ ∃ g cap, v = .slice (some ⟨g, 0, none⟩) ds.length cap ∧ ds.length ≤ cap ∧ cap ≤ maxLen ∧ (∀ i (hi : i < ds.length), w.cell? ⟨g, i, none⟩ = some (.int .i64 ds[i])) := by
  rcases h.own.2 with ⟨h1, h2⟩ | ⟨g, cap, cur, h1, _, h2, h3, h4, h5, h6⟩
  · exact Or.inl ⟨h1, List.eq_nil_of_length_eq_zero h2⟩
  · refine Or.inr ⟨g, cap, h1, h3, h4, fun i hi => ?_⟩
    rw [cell_of_row w g i cur 3 (0, 0) h2]
    have : (cur.toList.take (ds.length * 1))[i]? = some (.int .i64 ds[i]) := by rw [h6]; simp [hi]
    rw [List.getElem?_take_of_lt (by omega)] at this
    simpa using this

set_option maxHeartbeats 400000 in
theorem digit_any (v : Value) (ds : List Int) (i : Nat) (w : World) (h : Dl w v ds) (_hi : i ≤ 1000) :
    Calls Try.prog 58 #[v, .int .i64 i] w fun e w' => e = .returned (.int .i64 (ds.getD i 0)) ∧ w = w' := by
  have hfew := h.few
  rcases h.shape with ⟨rfl, rfl⟩ | ⟨g, cap, rfl, hc, hm, hcell⟩
  · go_enter Try.func58, Try.ntmps58
    go_wp2
    go_ret
    exact ⟨by simp, rfl⟩
  · unfold maxLen at hm
    by_cases hlt : i < ds.length
    · have hc1 := hcell i hlt
      have HD : Hid (ds.getD i 0 = ds[i]) := by rw [Hid, List.getD_eq_getElem?_getD, List.getElem?_eq_getElem hlt]; rfl
      clear hcell
      go_enter Try.func58, Try.ntmps58
      go_wp2
      go_ret
      exact ⟨by rw [HD.out]; rfl, rfl⟩
    · have HD : Hid (ds.getD i 0 = 0) := by rw [Hid, List.getD_eq_getElem?_getD, List.getElem?_eq_none (by omega)]; rfl
      clear hcell
      go_enter Try.func58, Try.ntmps58
      go_wp2
      go_ret
      exact ⟨by rw [HD.out]; rfl, rfl⟩

theorem Dl.take {w : World} {g cap : Nat} {ds : List Int} (h : Dl w (.slice (some ⟨g, 0, none⟩) ds.length cap) ds) {n : Nat} (hn : n ≤ ds.length) : Dl w (.slice (some ⟨g, 0, none⟩) n cap) (ds.take n) := by
  have hl : (ds.take n).length = n := by rw [List.length_take, Nat.min_eq_left hn]
  refine ⟨?_, h.ok.take n, by have := h.few; omega⟩
  rw [hl]
  refine ⟨by rw [List.length_map, hl, Nat.mul_one], ?_⟩
  rcases h.own.2 with ⟨h1, h2⟩ | ⟨g', cap', cur, h1, h0, h2, h3, h4, h5, h6⟩
  · cases h1
  · cases h1
    refine Or.inr ⟨g, cap, cur, rfl, h0, h2, by omega, h4, h5, ?_⟩
    have := congrArg (List.take n) h6
    rw [List.take_take, Nat.mul_one, Nat.min_eq_left hn] at this
    rw [Nat.mul_one, this, List.map_take]

theorem Dl.nil (w : World) : Dl w (.slice none 0 0) [] := ⟨World.ownsRow_nil w 0 3 1, Dok.nil, by simp⟩

set_option maxHeartbeats 800000 in
theorem trim_any (v : Value) (ds : List Int) (w : World) (h : Dl w v ds) :
    Calls Try.prog 59 #[v] w fun e w' => Trimmed w v ds e w' := by
  have hfew := h.few
  have HH : Hid (Dl w v ds) := h
  rcases h.shape with ⟨rfl, rfl⟩ | ⟨g, cap, rfl, hc, hm, hcell⟩
  · clear h
    go_enter Try.func59, Try.ntmps59
    go_wp2
    refine wp_loop_rounds 1 ?_
    rw [rounds_succ]
    go_wp2
    go_ret
    exact Trimmed.mk (Dl.nil w) rfl (fun h => absurd rfl h) (by simp) rfl
  · unfold maxLen at hm
    clear h
    go_enter Try.func59, Try.ntmps59
    go_wp2_with fail
    go_loop [3] (fun i => ∃ n : Nat, i = .int .i64 n ∧ n ≤ ds.length ∧ Hid (dv (ds.take n) = dv ds))
      (fun i => (intOf i).toNat)
    case atStart => exact ⟨ds.length, rfl, Nat.le_refl _, by rw [Hid, List.take_length]⟩
    case round =>
      obtain ⟨n, rfl, hn, H⟩ := hrel
      by_cases h0 : n = 0
      · subst h0
        clear hcell
        go_wp2_with fail
        go_ret
        exact Trimmed.mk (HH.out.take (Nat.zero_le _)) H.out (trim_tr (Nat.zero_le _) (Or.inl rfl)) (by simp) rfl
      · obtain ⟨m, rfl⟩ : ∃ m, n = m + 1 := ⟨n - 1, by omega⟩
        have hc1 := hcell m (by omega)
        have HG : Hid (ds.getD m 0 = ds[m]'(by omega)) := by rw [Hid, List.getD_eq_getElem?_getD, List.getElem?_eq_getElem (by omega)]; rfl
        clear hcell h0
        by_cases hz : ds[m]'(by omega) = 0
        · rw [hz] at hc1
          have HZ : Hid (ds[m]'(by omega) = 0) := hz
          clear hz
          go_wp2_with fail
          go_round
          case rel => exact ⟨m, by go_num, by omega, trim_step hn (HG.out.trans HZ.out) H.out⟩
          case measure => simp [intOf]
        · have hzb : (ds[m]'(by omega) == 0) = false := by simpa using hz
          have HZ : Hid (ds[m]'(by omega) ≠ 0) := hz
          clear hz
          go_wp2_with fail
          go_ret
          exact Trimmed.mk (HH.out.take hn) H.out (trim_tr hn (Or.inr (by rw [Nat.add_sub_cancel, HG.out]; exact HZ.out))) (by simp; omega) rfl

end Go.Proofs.Ytgeoffpcmkofkaa
/- The walks of package plumbref: 'greater', 'Minus', 'Sign'. -/
namespace Go.Proofs.Ytgeoffpcmkofkaa
open Go.RowKit Fl Dg
set_option maxRecDepth 100000

/-- Is the one number greater? -/
def gtB (a b : List Int) : Bool := decide (dv b < dv a)

/-- What is known of two lists of digits of one length. -/
structure Two (w : World) (g1 g2 n : Nat) (a b : List Int) : Prop where
  la : a.length = n
  lb : b.length = n
  oka : Dok a
  okb : Dok b
  lt1 : g1 < w.heap.size
  lt2 : g2 < w.heap.size
  k1 : ∀ i, i < n → w.cell? ⟨g1, i, none⟩ = some (.int .i64 (a.getD i 0))
  k2 : ∀ i, i < n → w.cell? ⟨g2, i, none⟩ = some (.int .i64 (b.getD i 0))

theorem Two.end1 {w : World} {g1 g2 n : Nat} {a b : List Int} (h : Two w g1 g2 n a b) {m : Nat} (hm : m < n) (he : dv (a.drop (m + 1)) = dv (b.drop (m + 1))) (hlt : b.getD m 0 < a.getD m 0) : gtB a b = true :=
  decide_eq_true (greater_at h.oka h.okb (h.la.trans h.lb.symm) (by rw [h.la]; exact hm) he hlt)
theorem Two.end2 {w : World} {g1 g2 n : Nat} {a b : List Int} (h : Two w g1 g2 n a b) {m : Nat} (hm : m < n) (he : dv (a.drop (m + 1)) = dv (b.drop (m + 1))) (hlt : a.getD m 0 < b.getD m 0) : gtB a b = false := by
  have := greater_at h.okb h.oka (h.lb.trans h.la.symm) (by rw [h.lb]; exact hm) he.symm hlt
  exact decide_eq_false (by omega)

set_option maxHeartbeats 800000 in
theorem greater_same (g1 c1 g2 c2 n : Nat) (a b : List Int) (w : World) (hT : Two w g1 g2 n a b) (hf : n ≤ 1000) (h1 : n ≤ c1) (h2 : n ≤ c2) :
    Calls Try.prog 61 #[.slice (some ⟨g1, 0, none⟩) n c1, .slice (some ⟨g2, 0, none⟩) n c2] w fun e w' => e = .returned (.bool (gtB a b)) ∧ Hid (New w w') := by
  have hne : ((n : Int) != n) = false := by simp
  go_enter Try.func61, Try.ntmps61
  go_wp2_with fail
  go_loopw [5] (fun i wr => ((∃ m : Nat, i = .int .i64 m ∧ m < n ∧ Hid (dv (a.drop (m + 1)) = dv (b.drop (m + 1)))) ∨ (i = .int .i64 (-1) ∧ Hid (dv a = dv b))) ∧ Hid (New w wr))
    (fun i _ => (intOf i + 1).toNat)
  case atStart =>
    refine ⟨?_, New.refl _⟩
    by_cases h0 : n = 0
    · right
      subst h0
      have ea := List.eq_nil_of_length_eq_zero hT.la
      have eb := List.eq_nil_of_length_eq_zero hT.lb
      exact ⟨rfl, by rw [Hid, ea, eb]⟩
    · left
      refine ⟨n - 1, by have e : ((n - 1 : Nat) : Int) = (n : Int) - 1 := by omega
                        rw [e], by omega, ?_⟩
      rw [Hid, show n - 1 + 1 = n by omega, List.drop_eq_nil_of_le (by rw [hT.la]; exact Nat.le_refl _), List.drop_eq_nil_of_le (by rw [hT.lb]; exact Nat.le_refl _)]
  case round =>
    obtain ⟨hrel, HN⟩ := hrel
    rcases hrel with ⟨m, rfl, hm, H⟩ | ⟨rfl, H⟩
    · have c1' : wr.cell? ⟨g1, m, none⟩ = some (.int .i64 (a.getD m 0)) := by rw [HN.out.rule g1 m hT.lt1]; exact hT.k1 m hm
      have c2' : wr.cell? ⟨g2, m, none⟩ = some (.int .i64 (b.getD m 0)) := by rw [HN.out.rule g2 m hT.lt2]; exact hT.k2 m hm
      obtain ⟨x, hx⟩ : ∃ x, x = a.getD m 0 := ⟨_, rfl⟩
      obtain ⟨y, hy⟩ : ∃ y, y = b.getD m 0 := ⟨_, rfl⟩
      rw [← hx] at c1'
      rw [← hy] at c2'
      have HX : Hid (x = a.getD m 0 ∧ y = b.getD m 0) := ⟨hx, hy⟩
      clear hx hy
      by_cases hxy : x = y
      · subst hxy
        have hb : (x != x) = false := by simp
        go_wp2_with fail
        go_quiet (fail)
        go_wp2_with fail
        go_roundw
        case rel =>
          refine ⟨?_, HN.out.drewN _⟩
          have hv : dv (a.drop m) = dv (b.drop m) := by rw [dv_drop a m, dv_drop b m, H.out, ← HX.out.1, ← HX.out.2]
          by_cases h0 : m = 0
          · right
            subst h0
            exact ⟨rfl, hv⟩
          · left
            refine ⟨m - 1, ?_, by omega, ?_⟩
            · have e : ((m - 1 : Nat) : Int) = (m : Int) - 1 := by omega
              rw [e]
            · rw [Hid, show m - 1 + 1 = m by omega]; exact hv
        case measure => simp [intOf]
      · have hb : (x != y) = true := by simpa using hxy
        go_wp2_with fail
        go_quiet (fail)
        go_wp2_with fail
        go_quiet (fail)
        go_wp2_with fail
        go_ret
        refine ⟨?_, (HN.out.drewN _).drewN _⟩
        rcases Int.lt_or_gt_of_ne hxy with hlt | hgt
        · rw [hT.end2 hm H.out (by rw [← HX.out.1, ← HX.out.2]; exact hlt)]
          have : decide (y < x) = false := decide_eq_false (by omega)
          rw [← this]; rfl
        · rw [hT.end1 hm H.out (by rw [← HX.out.1, ← HX.out.2]; exact hgt)]
          have : decide (y < x) = true := decide_eq_true (by omega)
          rw [← this]; rfl
    · go_wp2_with fail
      go_ret
      have e : gtB a b = false := decide_eq_false (by have := H.out; omega)
      exact ⟨by rw [e]; rfl, HN.out⟩

set_option maxHeartbeats 400000 in
theorem greater_diff (a1 a2 : Option Addr) (n1 c1 n2 c2 : Nat) (w : World) (h : n1 ≠ n2) (_h1 : n1 ≤ 1000) (_h2 : n2 ≤ 1000) :
    Calls Try.prog 61 #[.slice a1 n1 c1, .slice a2 n2 c2] w fun e w' => e = .returned (.bool (decide (n2 < n1))) ∧ Hid (New w w') := by
  have hne : ((n1 : Int) != n2) = true := by simp; omega
  have HD : Hid (decide (n2 < n1) = decide ((n2 : Int) < n1)) := by rw [Hid, decide_eq_decide]; omega
  go_enter Try.func61, Try.ntmps61
  go_wp2
  all_goals
    go_ret
    exact ⟨by rw [HD.out]; rfl, New.refl _⟩

set_option maxHeartbeats 400000 in
theorem greater_zero (a1 a2 : Option Addr) (c1 c2 : Nat) (w : World) :
    Calls Try.prog 61 #[.slice a1 0 c1, .slice a2 0 c2] w fun e w' => e = .returned (.bool false) ∧ Hid (New w w') := by
  go_enter Try.func61, Try.ntmps61
  go_wp2
  refine wp_loop_rounds 1 ?_
  rw [rounds_succ]
  go_wp2
  go_ret
  exact ⟨rfl, New.refl _⟩

theorem Dl.two {w : World} {g1 c1 g2 c2 : Nat} {a b : List Int} (ha : Dl w (.slice (some ⟨g1, 0, none⟩) a.length c1) a) (hb : Dl w (.slice (some ⟨g2, 0, none⟩) b.length c2) b) (hl : b.length = a.length) : Two w g1 g2 a.length a b := by
  have l1 := ha.own.lt g1 rfl
  have l2 := hb.own.lt g2 rfl
  refine ⟨rfl, hl, ha.ok, hb.ok, l1.2, l2.2, ?_, ?_⟩
  · intro i hi
    have := ha.own.cells (g := g1) rfl i (.int .i64 (a.getD i 0)) (by rw [List.getElem?_map, List.getD_eq_getElem?_getD, List.getElem?_eq_getElem hi]; rfl)
    rwa [Addr.add_lit, Nat.zero_add] at this
  · intro i hi
    have hi' : i < b.length := by omega
    have := hb.own.cells (g := g2) rfl i (.int .i64 (b.getD i 0)) (by rw [List.getElem?_map, List.getD_eq_getElem?_getD, List.getElem?_eq_getElem hi']; rfl)
    rwa [Addr.add_lit, Nat.zero_add] at this

theorem greater_any (v1 v2 : Value) (a b : List Int) (w : World) (ha : Dl w v1 a) (hb : Dl w v2 b) (ta : Tr a) (tb : Tr b) :
    Calls Try.prog 61 #[v1, v2] w fun e w' => e = .returned (.bool (gtB a b)) ∧ Hid (New w w') := by
  have diff : a.length ≠ b.length → decide (b.length < a.length) = gtB a b := by
    intro hne
    rcases Nat.lt_or_gt_of_ne hne with h | h
    · have := greater_len hb.ok ha.ok tb h
      rw [gtB, decide_eq_false (by omega), decide_eq_false (by omega)]
    · have := greater_len ha.ok hb.ok ta h
      rw [gtB, decide_eq_true this, decide_eq_true h]
  have zero : a = [] → b = [] → false = gtB a b := by rintro rfl rfl; rfl
  have fa := ha.few
  have fb := hb.few
  rcases ha.shape with ⟨rfl, rfl⟩ | ⟨g1, c1, rfl, hc1, _, _⟩
  · rcases hb.shape with ⟨rfl, rfl⟩ | ⟨g2, c2, rfl, hc2, _, _⟩
    · rw [← zero rfl rfl]; exact greater_zero _ _ _ _ w
    · by_cases h0 : b.length = 0
      · rw [← zero rfl (List.eq_nil_of_length_eq_zero h0), h0]; exact greater_zero _ _ _ _ w
      · rw [← diff (by simpa using Ne.symm h0)]; exact greater_diff _ _ 0 _ _ _ w (Ne.symm h0) (by omega) fb
  · rcases hb.shape with ⟨rfl, rfl⟩ | ⟨g2, c2, rfl, hc2, _, _⟩
    · by_cases h0 : a.length = 0
      · rw [← zero (List.eq_nil_of_length_eq_zero h0) rfl, h0]; exact greater_zero _ _ _ _ w
      · rw [← diff (by simpa using h0)]; exact greater_diff _ _ _ _ 0 _ w h0 fa (by omega)
    · by_cases hl : b.length = a.length
      · rw [hl] at hc2 ⊢
        exact greater_same g1 c1 g2 c2 a.length a b w (ha.two hb hl) fa hc1 hc2
      · rw [← diff (Ne.symm hl)]; exact greater_diff _ _ _ _ _ _ w (Ne.symm hl) fa fb

/-- The number that a sign and digits are. -/
def nv (neg : Bool) (ds : List Int) : Int := if neg then -dv ds else dv ds

/-- A Num in memory. -/
structure Nu (w : World) (n : Value) (x : Int) (L : Nat) : Prop where
  mk ::
  ex : ∃ (neg : Bool) (v : Value) (ds : List Int), n = .agg #[.bool neg, v] ∧ Dl w v ds ∧ Tr ds ∧ x = nv neg ds ∧ ds.length ≤ L

theorem Nu.kept {w w' : World} {n : Value} {x : Int} {L : Nat} (h : Nu w n x L) (hn : New w w') : Nu w' n x L := by
  obtain ⟨neg, v, ds, h1, h2, h3⟩ := h.ex
  exact ⟨⟨neg, v, ds, h1, h2.kept hn, h3⟩⟩

/-- A Num as an answer. -/
def NuRet (w : World) (x : Int) (L : Nat) (e : Ending) (w' : World) : Prop := ∃ n, e = .returned n ∧ Hid (Nu w' n x L ∧ New w w')
theorem NuRet.mk {w w' : World} {x : Int} {L : Nat} {n : Value} (h1 : Nu w' n x L) (h2 : New w w') : NuRet w x L (.returned n) w' := ⟨n, rfl, h1, h2⟩

theorem nv_neg (neg : Bool) (ds : List Int) : nv (!neg) ds = -nv neg ds := by cases neg <;> simp [nv]

theorem slice_val {w : World} {v : Value} {ds : List Int} (h : Dl w v ds) : ∃ ao n c, v = .slice ao n c ∧ n = ds.length := by
  rcases h.shape with ⟨rfl, rfl⟩ | ⟨g, cap, rfl, _⟩
  · exact ⟨_, _, _, rfl, rfl⟩
  · exact ⟨_, _, _, rfl, rfl⟩

set_option maxHeartbeats 400000 in
theorem minus_num (n : Value) (x : Int) (L : Nat) (w : World) (h : Nu w n x L) :
    Calls Try.prog 42 #[n] w fun e w' => NuRet w (-x) L e w' := by
  obtain ⟨neg, v, ds, rfl, h1, h2, h3, h4⟩ := h.ex
  obtain ⟨ao, m, c, rfl, hm⟩ := slice_val h1
  have H : Hid (∀ w', New w w' → NuRet w (-x) L (.returned (.agg #[.bool !neg, .slice ao m c])) w') := fun w' hn => NuRet.mk ⟨⟨!neg, _, ds, rfl, h1.kept hn, h2, by rw [h3, nv_neg], h4⟩⟩ hn
  clear h h1 h2 h3 h4 hm
  go_enter Try.func42, Try.ntmps42
  go_wp2
  exact bodyPost_ret (v := .agg #[.bool !neg, .slice ao m c]) (by simp [results, Try.results42, go_sem]) rfl (H.out _ ((New.alloc _ _).alloc' _))

set_option maxHeartbeats 400000 in
theorem sign_num (n : Value) (x : Int) (L : Nat) (w : World) (h : Nu w n x L) (hL : L ≤ 1000) :
    Calls Try.prog 40 #[n] w fun e w' => e = .returned (.int .i64 (sgn x)) ∧ Hid (New w w') := by
  obtain ⟨neg, v, ds, rfl, h1, h2, h3, h4⟩ := h.ex
  obtain ⟨ao, m, c, rfl, hm⟩ := slice_val h1
  have hz := dv_zero h1.ok h2
  have hnn := dv_nonneg h1.ok
  have hm2 : m ≤ 1000 := by omega
  by_cases h0 : m = 0
  · have hd : ds = [] := List.eq_nil_of_length_eq_zero (by omega)
    have HS : Hid (sgn x = 0) := by rw [Hid, h3, hd]; cases neg <;> rfl
    clear h h1 h2 h3 h4 hm hz hnn hd
    subst h0
    go_enter Try.func40, Try.ntmps40
    go_wp2
    go_ret
    exact ⟨by rw [HS.out]; rfl, New.alloc _ _⟩
  · have hd : dv ds ≠ 0 := fun e => by have := hz.1 e; rw [this] at hm; simp at hm; omega
    have hb : ((m : Int) == 0) = false := by rw [beq_eq_false_iff_ne]; omega
    cases neg with
    | true =>
      have HS : Hid (sgn x = -1) := by rw [Hid, h3, nv, if_pos rfl, sgn, if_pos (by omega)]
      clear h h1 h2 h3 h4 hm hz hnn hd h0
      go_enter Try.func40, Try.ntmps40
      go_wp2
      go_ret
      exact ⟨by rw [HS.out]; rfl, New.alloc _ _⟩
    | false =>
      have HS : Hid (sgn x = 1) := by rw [Hid, h3, nv, if_neg (by simp), sgn, if_neg (by omega), if_neg (by omega)]
      clear h h1 h2 h3 h4 hm hz hnn hd h0
      go_enter Try.func40, Try.ntmps40
      go_wp2
      go_ret
      exact ⟨by rw [HS.out]; rfl, New.alloc _ _⟩

end Go.Proofs.Ytgeoffpcmkofkaa
/- The walk of plumbref's 'Of'. -/
namespace Go.Proofs.Ytgeoffpcmkofkaa
open Go.RowKit Fl Dg
set_option maxRecDepth 100000

/-- The digits of N so far: m is left. -/
structure OfI (N m : Int) (ds : List Int) : Prop where
  ok : Dok ds
  val : dv ds + B ^ ds.length * m = N
  top : ds.length = 0 ∨ B ^ (ds.length - 1) ≤ N
  m0 : 0 ≤ m
  len : ds.length ≤ 3

theorem OfI.start {N : Int} (h : 0 ≤ N) : OfI N N [] := ⟨Dok.nil, by simp [dv], Or.inl rfl, h, by simp⟩

theorem OfI.next {N m : Int} {ds : List Int} (h : OfI N m ds) (hm : 0 < m) (hN : N ≤ 9007199254740992) : OfI N (m / 1048576) (ds ++ [m % 1048576]) := by
  have hp := bp ds.length
  have hv := h.val
  have hd := dv_nonneg h.ok
  have h1 : B ^ ds.length * 1 ≤ B ^ ds.length * m := Int.mul_le_mul_of_nonneg_left (by omega) (by omega)
  have h2 : ds.length < 3 := bl (by
    have : B ^ 3 = 1152921504606846976 := by decide
    omega)
  refine ⟨h.ok.append (Dok.one (by omega) (by omega)), ?_, Or.inr ?_, by omega, by simp; omega⟩
  · rw [dv_append, List.length_append, List.length_singleton, bs]
    simp only [dv]
    have hsd : m = 1048576 * (m / 1048576) + m % 1048576 := by omega
    generalize m / 1048576 = q at *
    generalize m % 1048576 = r at *
    subst hsd
    rw [← hv]; grind
  · rw [List.length_append, List.length_singleton, Nat.add_sub_cancel]; omega

theorem OfI.done {N : Int} {ds : List Int} (h : OfI N 0 ds) : dv ds = N ∧ Tr ds := by
  have hv := h.val
  have hd : dv ds = N := by omega
  refine ⟨hd, tr_of h.ok fun hn => ?_⟩
  rcases h.top with h1 | h1
  · exact absurd (List.eq_nil_of_length_eq_zero h1) hn
  · rw [hd]; exact h1

/-- The memory of 'Of' in its loop: the answer's block R, behind it the variable x, its digits in a block behind that. -/
structure OfM (w wr : World) (R : Nat) (neg : Bool) (v : Value) (ds : List Int) : Prop where
  res : wr.heap[R]? = some (.cells #[.bool false, .slice none 0 0] 55 (0, 0))
  x : wr.heap[R + 1]? = some (.cells #[.bool neg, v] 55 (0, 0))
  own : wr.ownsRow (R + 2) 3 1 v ds.length (ds.map (Value.int .i64))
  below : Below R w wr

theorem own_row {w : World} {base n : Nat} {v : Value} {xs : List Value} (h : w.ownsRow base 3 1 v n xs) {k : Nat} (hk : k < base) : some k ≠ v.ownBlock := by
  intro e
  have := h.lt k e.symm
  omega

theorem own_form {w : World} {base n : Nat} {v : Value} {xs : List Value} (h : w.ownsRow base 3 1 v n xs) (hn : 0 < n) : ∃ g cap, v = .slice (some ⟨g, 0, none⟩) n cap ∧ base ≤ g := by
  rcases h.2 with ⟨_, h2⟩ | ⟨g, cap, cur, h1, h2, _⟩
  · omega
  · exact ⟨g, cap, h1, h2⟩

theorem own_shape {w : World} {base n : Nat} {v : Value} {xs : List Value} (h : w.ownsRow base 3 1 v n xs) : ∃ ao c, v = .slice ao n c := by
  rcases h.2 with ⟨h1, h2⟩ | ⟨g, cap, cur, h1, h2, _⟩
  · subst h2; exact ⟨_, _, h1⟩
  · exact ⟨_, _, h1⟩

theorem OfM.grown {w wr w1 : World} {R : Nat} {neg : Bool} {v : Value} {ds : List Int} {o : Obj} (h : OfM w wr R neg v ds) (g : (wr.alloc o).grownBy w1 v.ownBlock) :
    w1.heap[R]? = some (.cells #[.bool false, .slice none 0 0] 55 (0, 0)) ∧ w1.heap[R + 1]? = some (.cells #[.bool neg, v] 55 (0, 0)) ∧ Below R w w1 := by
  have l1 := lt_of_block h.res
  have l2 := lt_of_block h.x
  have hs : (wr.alloc o).heap.size = wr.heap.size + 1 := by simp
  have n1 := own_row h.own (k := R) (by omega)
  have n2 := own_row h.own (k := R + 1) (by omega)
  refine ⟨?_, ?_, ?_⟩
  · rw [g.block R (by omega) n1, _root_.Go.heap_alloc_old wr o l1]; exact h.res
  · rw [g.block (R + 1) (by omega) n2, _root_.Go.heap_alloc_old wr o l2]; exact h.x
  · refine (h.below.alloc (by omega) o).grown g (by omega) (fun k hk => ?_)
    have := h.own.lt k hk
    omega

theorem OfM.next {w wr w1 : World} {R : Nat} {neg : Bool} {v v' : Value} {ds : List Int} {o : Obj} {d : Int} (h : OfM w wr R neg v ds) (g : (wr.alloc o).grownBy w1 v.ownBlock) (hown : w1.ownsRow (R + 2) 3 1 v' (ds.length + 1) (ds.map (Value.int .i64) ++ [.int .i64 d])) :
    OfM w (w1.setCell ⟨R + 1, 1, none⟩ v') R neg v' (ds ++ [d]) := by
  obtain ⟨g1, g2, g3⟩ := h.grown g
  refine ⟨?_, pair_set1 g2, ?_, g3.setCell (by simp) _⟩
  · rw [heap_setCell_other w1 ⟨R + 1, 1, none⟩ R v' (by simp)]; exact g1
  · have := ownsRow_setCell_other hown (a := ⟨R + 1, 1, none⟩) (fun e => own_row hown (k := R + 1) (by omega) e.symm) v'
    simpa using this

theorem Below.new {w w' : World} (h : Below w.heap.size w w') : New w w' := ⟨h.os, h.tape, h.output, h.size, fun k hk _ => h.block k hk⟩

theorem own_dl {w : World} {base : Nat} {v : Value} {ds : List Int} (h : w.ownsRow base 3 1 v ds.length (ds.map (Value.int .i64))) (hok : Dok ds) (hf : ds.length ≤ 1000) : Dl w v ds := by
  refine ⟨⟨h.1, ?_⟩, hok, hf⟩
  rcases h.2 with h1 | ⟨g, cap, cur, h1, _, h2⟩
  · exact Or.inl h1
  · exact Or.inr ⟨g, cap, cur, h1, Nat.zero_le _, h2⟩

/-- The end of 'Of': x is the answer. -/
theorem OfM.answer {w wr : World} {neg : Bool} {v : Value} {ds : List Int} (h : OfM w wr w.heap.size neg v ds) {N x : Int} (hI : OfI N 0 ds) (hx : x = nv neg ds) :
    NuRet w x 3 (.returned (.agg #[.bool neg, v])) ((wr.setCell ⟨w.heap.size, 0, none⟩ (.bool neg)).setCell ⟨w.heap.size, 1, none⟩ v) := by
  have hb := (h.below.setCell (p := ⟨w.heap.size, 0, none⟩) (Nat.le_refl _) (.bool neg)).setCell (p := ⟨w.heap.size, 1, none⟩) (Nat.le_refl _) v
  have o1 := ownsRow_setCell_other (ownsRow_setCell_other h.own (a := ⟨w.heap.size, 0, none⟩) (fun e => own_row h.own (k := w.heap.size) (by omega) e.symm) (.bool neg)) (a := ⟨w.heap.size, 1, none⟩) (fun e => own_row h.own (k := w.heap.size) (by omega) e.symm) v
  exact NuRet.mk ⟨⟨neg, v, ds, rfl, own_dl o1 hI.ok (by have := hI.len; omega), hI.done.2, hx, hI.len⟩⟩ (Below.new hb)

set_option maxHeartbeats 1600000 in
theorem of_pos (n : Int) (w : World) (h1 : 0 ≤ n) (h2 : n ≤ 9007199254740992) :
    Calls Try.prog 60 #[.int .i64 n] w fun e w' => NuRet w n 3 e w' := by
  obtain ⟨i0, hi, hz0, hz1, hz2⟩ := info_parts Try.info3
  have hneg : decide (n < 0) = false := decide_eq_false (by omega)
  go_enter Try.func60, Try.ntmps60
  go_wp2_with fail
  go_loopw [0] (fun i wr => ∃ (m : Int) (v : Value) (ds : List Int), i = .int .i64 m ∧ 0 ≤ m ∧ m ≤ 9007199254740992 ∧ Hid (OfI n m ds ∧ OfM w wr w.heap.size false v ds))
    (fun i _ => (intOf i).toNat)
  case atStart =>
    refine ⟨n, .slice none 0 0, [], rfl, h1, h2, OfI.start h1, ?_⟩
    refine ⟨?_, ?_, World.ownsRow_nil _ _ _ _, ((Below.refl _ _).alloc (Nat.le_refl _) _).alloc (by simp) _⟩
    · rw [_root_.Go.heap_alloc_old _ _ (by simp)]; exact _root_.Go.heap_alloc_new w _
    · have := _root_.Go.heap_alloc_new (w.alloc (.cells #[.bool false, .slice none 0 0] 55)) (.cells #[.bool false, .slice none 0 0] 55)
      simpa [hneg] using this
  case round =>
    obtain ⟨m, v, ds, rfl, hm0, hm1, H⟩ := hrel
    obtain ⟨ao, c, hv⟩ := own_shape H.out.2.own
    subst hv
    have hx0 := pair_cell0 H.out.2.x
    have hx1 := pair_cell1 H.out.2.x
    have hl3 := H.out.1.len
    by_cases hm : 0 < m
    · go_wp2_with (at_builtin; refine wpList_append_own _ rfl _ _ 46 rfl (w.heap.size + 2) 3 i0 (.int .i64 0) 1 8 Try.underlying46 hi hz0 hz1 hz2 rfl (by decide) _ _ _ rfl (H.out.2.own.alloc _) ⟨wr.heap.size, 0, none⟩ 1 1 [.int .i64 (m % 1048576)] rfl rfl (cell_one_new _ _ _) ?c2 ?c3 ?c4 ?c5 ?_)
      case c2 => intro u hu; rw [List.mem_singleton.1 hu]; rfl
      case c3 => unfold maxLen; omega
      case c4 => omega
      case c5 => have := lt_of_block H.out.2.x; simp; omega
      intro v' w1 hown1 hgrow1 hnil
      obtain ⟨g', cap', rfl, _⟩ := own_form hown1 (by omega)
      have HM : Hid (OfM w (w1.setCell ⟨w.heap.size + 1, 1, none⟩ (.slice (some ⟨g', 0, none⟩) (ds.length + 1) cap')) w.heap.size false (.slice (some ⟨g', 0, none⟩) (ds.length + 1) cap') (ds ++ [m % 1048576])) := H.out.2.next hgrow1 hown1
      have hg := H.out.2.grown hgrow1
      have hy1 := pair_cell1 hg.2.1
      have hyf := pair_free (o := 1) hg.2.1
      clear hg hown1 hgrow1 hnil hx0 hx1
      go_wp2_with fail
      go_roundw
      case rel => exact ⟨m / 1048576, _, ds ++ [m % 1048576], by go_num, by omega, by omega, H.out.1.next hm h2, HM.out⟩
      case measure => simp [intOf]; omega
    · have hz : m = 0 := by omega
      subst hz
      have hr0 := pair_cell0 H.out.2.res
      have hr1 := pair_cell1 H.out.2.res
      have hf0 := pair_free (o := 0) H.out.2.res
      have hf1 := pair_free (o := 1) H.out.2.res
      go_wp2_with fail
      refine bodyPost_ret (v := .agg #[.bool false, .slice ao ds.length c]) (by simp [results, Try.results60, go_sem, hr0, hr1]) rfl ?_
      exact H.out.2.answer H.out.1 (by rw [nv, if_neg (by simp)]; exact H.out.1.done.1.symm)

set_option maxHeartbeats 1600000 in
theorem of_neg (n : Int) (w : World) (h1 : n < 0) (h2 : -n ≤ 9007199254740992) :
    Calls Try.prog 60 #[.int .i64 n] w fun e w' => NuRet w n 3 e w' := by
  obtain ⟨i0, hi, hz0, hz1, hz2⟩ := info_parts Try.info3
  have hneg : decide (n < 0) = true := decide_eq_true h1
  go_enter Try.func60, Try.ntmps60
  go_wp2_with fail
  go_loopw [0] (fun i wr => ∃ (m : Int) (v : Value) (ds : List Int), i = .int .i64 m ∧ 0 ≤ m ∧ m ≤ 9007199254740992 ∧ Hid (OfI (-n) m ds ∧ OfM w wr w.heap.size true v ds))
    (fun i _ => (intOf i).toNat)
  case atStart =>
    refine ⟨-n, .slice none 0 0, [], rfl, by omega, h2, OfI.start (by omega), ?_⟩
    refine ⟨?_, ?_, World.ownsRow_nil _ _ _ _, ((Below.refl _ _).alloc (Nat.le_refl _) _).alloc (by simp) _⟩
    · rw [_root_.Go.heap_alloc_old _ _ (by simp)]; exact _root_.Go.heap_alloc_new w _
    · have := _root_.Go.heap_alloc_new (w.alloc (.cells #[.bool false, .slice none 0 0] 55)) (.cells #[.bool true, .slice none 0 0] 55)
      simpa [hneg] using this
  case round =>
    obtain ⟨m, v, ds, rfl, hm0, hm1, H⟩ := hrel
    obtain ⟨ao, c, hv⟩ := own_shape H.out.2.own
    subst hv
    have hx0 := pair_cell0 H.out.2.x
    have hx1 := pair_cell1 H.out.2.x
    have hl3 := H.out.1.len
    by_cases hm : 0 < m
    · go_wp2_with (at_builtin; refine wpList_append_own _ rfl _ _ 46 rfl (w.heap.size + 2) 3 i0 (.int .i64 0) 1 8 Try.underlying46 hi hz0 hz1 hz2 rfl (by decide) _ _ _ rfl (H.out.2.own.alloc _) ⟨wr.heap.size, 0, none⟩ 1 1 [.int .i64 (m % 1048576)] rfl rfl (cell_one_new _ _ _) ?c2 ?c3 ?c4 ?c5 ?_)
      case c2 => intro u hu; rw [List.mem_singleton.1 hu]; rfl
      case c3 => unfold maxLen; omega
      case c4 => omega
      case c5 => have := lt_of_block H.out.2.x; simp; omega
      intro v' w1 hown1 hgrow1 hnil
      obtain ⟨g', cap', rfl, _⟩ := own_form hown1 (by omega)
      have HM : Hid (OfM w (w1.setCell ⟨w.heap.size + 1, 1, none⟩ (.slice (some ⟨g', 0, none⟩) (ds.length + 1) cap')) w.heap.size true (.slice (some ⟨g', 0, none⟩) (ds.length + 1) cap') (ds ++ [m % 1048576])) := H.out.2.next hgrow1 hown1
      have hg := H.out.2.grown hgrow1
      have hy1 := pair_cell1 hg.2.1
      have hyf := pair_free (o := 1) hg.2.1
      clear hg hown1 hgrow1 hnil hx0 hx1
      go_wp2_with fail
      go_roundw
      case rel => exact ⟨m / 1048576, _, ds ++ [m % 1048576], by go_num, by omega, by omega, H.out.1.next hm h2, HM.out⟩
      case measure => simp [intOf]; omega
    · have hz : m = 0 := by omega
      subst hz
      have hr0 := pair_cell0 H.out.2.res
      have hr1 := pair_cell1 H.out.2.res
      have hf0 := pair_free (o := 0) H.out.2.res
      have hf1 := pair_free (o := 1) H.out.2.res
      go_wp2_with fail
      refine bodyPost_ret (v := .agg #[.bool true, .slice ao ds.length c]) (by simp [results, Try.results60, go_sem, hr0, hr1]) rfl ?_
      exact H.out.2.answer H.out.1 (by rw [nv, if_pos rfl, H.out.1.done.1]; omega)

theorem of_num (n : Int) (w : World) (h : Cd n) : Calls Try.prog 60 #[.int .i64 n] w fun e w' => NuRet w n 3 e w' := by
  by_cases h0 : 0 ≤ n
  · exact of_pos n w h0 h.2
  · exact of_neg n w (by omega) (by have := h.1; omega)

end Go.Proofs.Ytgeoffpcmkofkaa
/- The walk of plumbref's 'Add', signs alike. -/
namespace Go.Proofs.Ytgeoffpcmkofkaa
open Go.RowKit Fl Dg
set_option maxRecDepth 100000

/-- A digit; 0 behind the end. -/
def dg (ds : List Int) (i : Nat) : Int := ds.getD i 0
theorem dg_ok {ds : List Int} (h : Dok ds) (i : Nat) : 0 ≤ dg ds i ∧ dg ds i < 1048576 := getD_ok h i

theorem digit_same (v : Value) (ds : List Int) (i : Nat) (w : World) (h : Dl w v ds) (hi : i ≤ 1000) :
    Calls Try.prog 58 #[v, .int .i64 i] w fun e w' => e = .returned (.int .i64 (dg ds i)) ∧ w' = w := (digit_any v ds i w h hi).mono fun _ _ h => ⟨h.1, h.2.symm⟩

/-- The memory of a loop that gathers digits in a row of its own. -/
structure Gat (W wr : World) (v : Value) (ds : List Int) : Prop where
  own : wr.ownsRow W.heap.size 3 1 v ds.length (ds.map (Value.int .i64))
  new : New W wr

theorem Gat.next {W wr w1 : World} {v v' : Value} {ds : List Int} {o : Obj} {d : Int} (h : Gat W wr v ds) (g : (wr.alloc o).grownBy w1 v.ownBlock) (hown : w1.ownsRow W.heap.size 3 1 v' (ds.length + 1) (ds.map (Value.int .i64) ++ [.int .i64 d])) : Gat W w1 v' (ds ++ [d]) := by
  refine ⟨by simpa using hown, (h.new.alloc' o).trans g (fun k hk => (h.own.lt k hk).1)⟩

theorem Gat.drewN {W wr : World} {v : Value} {ds : List Int} (h : Gat W wr v ds) (n : Nat) : Gat W (wr.drewN n) v ds := ⟨h.own, h.new.drewN n⟩


/-- The answer is laid into the block R. -/
theorem Gat.answer {w W wr : World} {v : Value} {ds : List Int} (h : Gat W wr v ds) (hn : New w W) {R : Nat} (h1 : w.heap.size ≤ R) (h2 : R < W.heap.size) {neg : Bool} {x : Int} {L : Nat} (hok : Dok ds) (ht : Tr ds) (hx : x = nv neg ds) (hL : ds.length ≤ L) (hf : L ≤ 1000) :
    NuRet w x L (.returned (.agg #[.bool neg, v])) ((wr.setCell ⟨R, 0, none⟩ (.bool neg)).setCell ⟨R, 1, none⟩ v) := by
  have hnw : New w wr := hn.trans' h.new
  have hb : Below w.heap.size w wr := ⟨hnw.os, hnw.tape, hnw.output, hnw.size, fun k hk => hnw.block k hk (by simp)⟩
  have hb2 := (hb.setCell (p := ⟨R, 0, none⟩) h1 (.bool neg)).setCell (p := ⟨R, 1, none⟩) h1 v
  have o1 := ownsRow_setCell_other (ownsRow_setCell_other h.own (a := ⟨R, 0, none⟩) (fun e => own_row h.own (k := R) h2 e.symm) (.bool neg)) (a := ⟨R, 1, none⟩) (fun e => own_row h.own (k := R) h2 e.symm) v
  exact NuRet.mk ⟨⟨neg, v, ds, rfl, own_dl o1 hok (by omega), ht, hx, hL⟩⟩ (Below.new hb2)

theorem nv_add (neg : Bool) (a b d : List Int) (h : dv d = dv a + dv b) : nv neg a + nv neg b = nv neg d := by
  cases neg <;> simp only [nv, h] <;> simp <;> omega

set_option maxHeartbeats 3200000 in
theorem add_alike (neg : Bool) (ao1 ao2 : Option Addr) (c1 c2 : Nat) (a b : List Int) (L : Nat) (w : World) (ha : Dl w (.slice ao1 a.length c1) a) (hb : Dl w (.slice ao2 b.length c2) b) (ta : Tr a) (tb : Tr b) (la : a.length ≤ L) (lb : b.length ≤ L) (hL : L ≤ 900) :
    Calls Try.prog 41 #[.agg #[.bool neg, .slice ao1 a.length c1], .agg #[.bool neg, .slice ao2 b.length c2]] w fun e w' => NuRet w (nv neg a + nv neg b) (L + 1) e w' := by
  obtain ⟨i0, hi, hz0, hz1, hz2⟩ := info_parts Try.info3
  have hbb : (neg == neg) = true := by simp
  obtain ⟨W, hW⟩ : ∃ W, W = ((w.alloc (.cells #[.bool neg, .slice ao1 a.length c1] 55)).alloc (.cells #[.bool neg, .slice ao2 b.length c2] 55)).alloc (.cells #[.bool false, .slice none 0 0] 55) := ⟨_, rfl⟩
  have HW : Hid (New w W ∧ W.heap.size = w.heap.size + 3) := by rw [hW]; exact ⟨((New.alloc _ _).alloc' _).alloc' _, by simp⟩
  have ra0 : W.cell? ⟨w.heap.size, 0, none⟩ = some (.bool neg) := by rw [hW]; go_simp
  have ra1 : W.cell? ⟨w.heap.size, 1, none⟩ = some (.slice ao1 a.length c1) := by rw [hW]; go_simp
  have rb1 : W.cell? ⟨w.heap.size + 1, 1, none⟩ = some (.slice ao2 b.length c2) := by rw [hW]; go_simp
  have HWe : Hid (W = ((w.alloc (.cells #[.bool neg, .slice ao1 a.length c1] 55)).alloc (.cells #[.bool neg, .slice ao2 b.length c2] 55)).alloc (.cells #[.bool false, .slice none 0 0] 55)) := hW
  clear hW
  go_enter Try.func41, Try.ntmps41
  go_wp2_with fail
  have r0 : W.cell? ⟨w.heap.size + 1 + 1, 0, none⟩ = some (.bool false) := by rw [HWe.out]; go_simp
  have r1 : W.cell? ⟨w.heap.size + 1 + 1, 1, none⟩ = some (.slice none 0 0) := by rw [HWe.out]; go_simp
  have f0 : ∀ o, W.frozen? ⟨w.heap.size + 1 + 1, o, none⟩ = false := by intro o; rw [HWe.out]; go_simp
  have HD : Hid (Dl W (.slice ao1 a.length c1) a ∧ Dl W (.slice ao2 b.length c2) b) := ⟨ha.kept HW.out.1, hb.kept HW.out.1⟩
  go_loopw [5, 6, 7] (fun d c i wr => ∃ (k : Nat) (cv : Int) (v : Value) (ds : List Int), i = .int .i64 k ∧ c = .int .i64 cv ∧ d = v ∧ 0 ≤ cv ∧ cv ≤ 1 ∧ k ≤ L + 1 ∧ Hid (AddI a b k ds cv ∧ Gat W wr v ds))
    (fun _ _ i _ => L + 1 - (intOf i).toNat)
  case atStart =>
    refine ⟨0, 0, _, [], rfl, rfl, rfl, by omega, by omega, by omega, AddI.start a b, World.ownsRow_nil _ _ _ _, ?_⟩
    rw [← HWe.out]; exact New.refl W
  case round =>
    obtain ⟨k, cv, v, ds, rfl, rfl, rfl, hc0, hc1, hk, H⟩ := hrel
    obtain ⟨ao, c, hv⟩ := own_shape H.out.2.own
    subst hv
    have hlen : ds.length ≤ L + 1 := by have := H.out.1.len; omega
    have hsz := HW.out.2
    have qa1 : wr.cell? ⟨w.heap.size, 1, none⟩ = some (.slice ao1 a.length c1) := by rw [H.out.2.new.rule _ _ (by omega)]; exact ra1
    have qb1 : wr.cell? ⟨w.heap.size + 1, 1, none⟩ = some (.slice ao2 b.length c2) := by rw [H.out.2.new.rule _ _ (by omega)]; exact rb1
    have HDr : Hid (∀ n, Dl (wr.drewN n) (.slice ao1 a.length c1) a ∧ Dl (wr.drewN n) (.slice ao2 b.length c2) b) := fun n => ⟨HD.out.1.kept (H.out.2.new.drewN n), HD.out.2.kept (H.out.2.new.drewN n)⟩
    clear ra0 ra1 rb1 r0 r1 f0 hsz
    have HOK : Hid (Dok a ∧ Dok b) := ⟨ha.ok, hb.ok⟩
    have ba := dg_ok ha.ok k
    have bb := dg_ok hb.ok k
    have ba0 := ba.1
    have ba1 := ba.2
    have bb0 := bb.1
    have bb1 := bb.2
    clear ba bb
    by_cases g1 : k < a.length
    · have HGO : k < a.length ∨ k < b.length ∨ 0 < cv := Or.inl g1
      go_wp2_with fail
      go_quiet (first | (go_at_call 58; exact Calls.quiet_of_same (digit_same _ a k _ (HDr.out _).1 (by omega))) | (go_at_call 58; exact Calls.quiet_of_same (digit_same _ b k _ (HDr.out _).2 (by omega))))
      go_wp2_with (at_builtin; refine wpList_append_own _ rfl _ _ 46 rfl W.heap.size 3 i0 (.int .i64 0) 1 8 Try.underlying46 hi hz0 hz1 hz2 rfl (by decide) _ _ _ rfl ((H.out.2.drewN nq).own.alloc _) ⟨wr.heap.size, 0, none⟩ 1 1 [.int .i64 ((dg a k + dg b k + cv) % 1048576)] rfl rfl (cell_one_new _ _ _) ?c2 ?c3 ?c4 ?c5 ?_)
      case c2 => intro u hu; rw [List.mem_singleton.1 hu]; rfl
      case c3 => unfold maxLen; omega
      case c4 => omega
      case c5 => have := H.out.2.new.size; simp; omega
      intro v' w1 hown1 hgrow1 hnil
      have HA : Hid (AddI a b (k + 1) (ds ++ [(dg a k + dg b k + cv) % 1048576]) ((dg a k + dg b k + cv) / 1048576)) := (H.out.1.next HOK.out.1 HOK.out.2 HGO rfl).1
      have HM : Hid (Gat W w1 v' (ds ++ [(dg a k + dg b k + cv) % 1048576])) := (H.out.2.drewN nq).next hgrow1 hown1
      obtain ⟨g', cap', rfl, _⟩ := own_form hown1 (by omega)
      clear hown1 hgrow1 hnil qa1 qb1
      go_wp2_with fail
      go_roundw
      case rel => exact ⟨k + 1, _, _, _, by go_num, rfl, rfl, by omega, by omega, by have := HA.out.stop; omega, HA.out, HM.out⟩
      case measure => have := HA.out.stop; simp [intOf]; omega
    · by_cases g2 : k < b.length
      · have HGO : k < a.length ∨ k < b.length ∨ 0 < cv := Or.inr (Or.inl g2)
        go_wp2_with fail
        go_quiet (first | (go_at_call 58; exact Calls.quiet_of_same (digit_same _ a k _ (HDr.out _).1 (by omega))) | (go_at_call 58; exact Calls.quiet_of_same (digit_same _ b k _ (HDr.out _).2 (by omega))))
        go_wp2_with (at_builtin; refine wpList_append_own _ rfl _ _ 46 rfl W.heap.size 3 i0 (.int .i64 0) 1 8 Try.underlying46 hi hz0 hz1 hz2 rfl (by decide) _ _ _ rfl ((H.out.2.drewN nq).own.alloc _) ⟨wr.heap.size, 0, none⟩ 1 1 [.int .i64 ((dg a k + dg b k + cv) % 1048576)] rfl rfl (cell_one_new _ _ _) ?d2 ?d3 ?d4 ?d5 ?_)
        case d2 => intro u hu; rw [List.mem_singleton.1 hu]; rfl
        case d3 => unfold maxLen; omega
        case d4 => omega
        case d5 => have := H.out.2.new.size; simp; omega
        intro v' w1 hown1 hgrow1 hnil
        have HA : Hid (AddI a b (k + 1) (ds ++ [(dg a k + dg b k + cv) % 1048576]) ((dg a k + dg b k + cv) / 1048576)) := (H.out.1.next HOK.out.1 HOK.out.2 HGO rfl).1
        have HM : Hid (Gat W w1 v' (ds ++ [(dg a k + dg b k + cv) % 1048576])) := (H.out.2.drewN nq).next hgrow1 hown1
        obtain ⟨g', cap', rfl, _⟩ := own_form hown1 (by omega)
        clear hown1 hgrow1 hnil qa1 qb1
        go_wp2_with fail
        go_roundw
        case rel => exact ⟨k + 1, _, _, _, by go_num, rfl, rfl, by omega, by omega, by have := HA.out.stop; omega, HA.out, HM.out⟩
        case measure => have := HA.out.stop; simp [intOf]; omega
      · by_cases g3 : 0 < cv
        · have HGO : k < a.length ∨ k < b.length ∨ 0 < cv := Or.inr (Or.inr g3)
          go_wp2_with fail
          go_quiet (first | (go_at_call 58; exact Calls.quiet_of_same (digit_same _ a k _ (HDr.out _).1 (by omega))) | (go_at_call 58; exact Calls.quiet_of_same (digit_same _ b k _ (HDr.out _).2 (by omega))))
          go_wp2_with (at_builtin; refine wpList_append_own _ rfl _ _ 46 rfl W.heap.size 3 i0 (.int .i64 0) 1 8 Try.underlying46 hi hz0 hz1 hz2 rfl (by decide) _ _ _ rfl ((H.out.2.drewN nq).own.alloc _) ⟨wr.heap.size, 0, none⟩ 1 1 [.int .i64 ((dg a k + dg b k + cv) % 1048576)] rfl rfl (cell_one_new _ _ _) ?e2 ?e3 ?e4 ?e5 ?_)
          case e2 => intro u hu; rw [List.mem_singleton.1 hu]; rfl
          case e3 => unfold maxLen; omega
          case e4 => omega
          case e5 => have := H.out.2.new.size; simp; omega
          intro v' w1 hown1 hgrow1 hnil
          have HA : Hid (AddI a b (k + 1) (ds ++ [(dg a k + dg b k + cv) % 1048576]) ((dg a k + dg b k + cv) / 1048576)) := (H.out.1.next HOK.out.1 HOK.out.2 HGO rfl).1
          have HM : Hid (Gat W w1 v' (ds ++ [(dg a k + dg b k + cv) % 1048576])) := (H.out.2.drewN nq).next hgrow1 hown1
          obtain ⟨g', cap', rfl, _⟩ := own_form hown1 (by omega)
          clear hown1 hgrow1 hnil qa1 qb1
          go_wp2_with fail
          go_roundw
          case rel => exact ⟨k + 1, _, _, _, by go_num, rfl, rfl, by omega, by omega, by have := HA.out.stop; omega, HA.out, HM.out⟩
          case measure => have := HA.out.stop; simp [intOf]; omega
        · have hz : cv = 0 := by omega
          subst hz
          have hd := H.out.1.done HOK.out.1 HOK.out.2 ta tb (by omega) (by omega)
          have HE : Hid (dv ds = dv a + dv b ∧ Tr ds) := hd
          clear hd
          have hsz := HW.out.2
          have q0 : wr.cell? ⟨w.heap.size, 0, none⟩ = some (.bool neg) := by rw [H.out.2.new.rule _ _ (by omega), HWe.out]; go_simp
          have qr0 : wr.cell? ⟨w.heap.size + 1 + 1, 0, none⟩ = some (.bool false) := by rw [H.out.2.new.rule _ _ (by omega), HWe.out]; go_simp
          have qr1 : wr.cell? ⟨w.heap.size + 1 + 1, 1, none⟩ = some (.slice none 0 0) := by rw [H.out.2.new.rule _ _ (by omega), HWe.out]; go_simp
          have qf0 : wr.frozen? ⟨w.heap.size + 1 + 1, 0, none⟩ = false := by rw [H.out.2.new.frule _ _ (by omega), HWe.out]; go_simp
          have qf1 : wr.frozen? ⟨w.heap.size + 1 + 1, 1, none⟩ = false := by rw [H.out.2.new.frule _ _ (by omega), HWe.out]; go_simp
          clear hsz
          go_wp2_with fail
          refine bodyPost_ret (v := .agg #[.bool neg, .slice ao ds.length c]) (by simp [results, Try.results41, go_sem, qr0, qr1]) rfl ?_
          exact H.out.2.answer HW.out.1 (by omega) (by have := HW.out.2; omega) H.out.1.ok HE.out.2 (nv_add neg a b ds HE.out.1) hlen (by omega)

end Go.Proofs.Ytgeoffpcmkofkaa
