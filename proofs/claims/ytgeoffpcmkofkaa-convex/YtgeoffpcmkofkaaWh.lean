/- The walks of package side: 'roughSide', 'exactSide', 'Of'. -/
import Derived.Test.YtgeoffpcmkofkaaWg
namespace Go.Proofs.Ytgeoffpcmkofkaa
open Go.RowKit Fl
set_option maxRecDepth 100000

theorem New.rule {W w1 : World} (h : New W w1) : ∀ b o, b < W.heap.size → w1.cell? ⟨b, o, none⟩ = W.cell? ⟨b, o, none⟩ :=
  fun b o hb => World.cell?_of_block (a := ⟨b, o, none⟩) (h.block b hb (by simp))

/-- The number whose sign is the side. -/
def det (ax ay bx by' cx cy : Int) : Int := (bx - ax) * (cy - ay) - (by' - ay) * (cx - ax)

theorem slack50 : F 4382002437431492608 1 50 := by
  refine ⟨by decide, ?_⟩
  have e : Ieee.double.read 4382002437431492608 = .number false 4503599627370496 (-102) := by decide
  rw [e]
  exact Is.mk (u := 0) (v := 52) (by decide) (by decide)

theorem slack49 : F 4386506037058863104 1 49 := by
  refine ⟨by decide, ?_⟩
  have e : Ieee.double.read 4386506037058863104 = .number false 4503599627370496 (-101) := by decide
  rw [e]
  exact Is.mk (u := 0) (v := 52) (by decide) (by decide)

theorem small_Big {x : Int} {k : Nat} (h : (x.natAbs : Int) ≤ 2 ^ k) (hk : k < 900) : (x.natAbs : Int) < Big := Int.lt_of_le_of_lt h (p2_lt_Big hk)

theorem mul_le_p2 {x y : Int} {j k : Nat} (hx : (x.natAbs : Int) ≤ 2 ^ j) (hy : (y.natAbs : Int) ≤ 2 ^ k) : ((x * y).natAbs : Int) ≤ 2 ^ (j + k) := by
  rw [Int.natAbs_mul, Int.natCast_mul, p2_add]
  exact Int.mul_le_mul hx hy (by omega) (by have := p2_pos j; omega)

theorem Df.p2 {X : Int} {r : Nat × Int} (h : Df X r) : (r.2.natAbs : Int) ≤ 2 ^ 55 := by
  have e : (2 : Int) ^ 55 = 36028797018963968 := by decide
  rw [e]; exact h.small

theorem rnd_p2 {x z : Int} {k : Nat} (h : Rnd x z) (hx : (x.natAbs : Int) ≤ 2 ^ k) : (z.natAbs : Int) ≤ 2 ^ k := by
  have h1 := h.le (Rep.p2 k) (by omega)
  have h2 := h.ge (Rep.p2 k).neg (by omega)
  omega

theorem add_le_p2 {x y : Int} {k : Nat} (hx : (x.natAbs : Int) ≤ 2 ^ k) (hy : (y.natAbs : Int) ≤ 2 ^ k) : ((x + y).natAbs : Int) ≤ 2 ^ (k + 1) := by
  rw [p2_succ]; omega
theorem sub_le_p2 {x y : Int} {k : Nat} (hx : (x.natAbs : Int) ≤ 2 ^ k) (hy : (y.natAbs : Int) ≤ 2 ^ k) : ((x - y).natAbs : Int) ≤ 2 ^ (k + 1) := by
  rw [p2_succ]; omega

/-- All words of 'roughSide', and that its answer is right where it is sure. -/
theorem roughSide_words {A B C D : Int} {bx by' cx cy : Nat × Int} (h1 : Df A bx) (h2 : Df B by') (h3 : Df C cx) (h4 : Df D cy) :
    ∃ (l r d t s : Nat) (zd S : Int), Ieee.double.mul bx.1 cy.1 = some l ∧ Ieee.double.mul by'.1 cx.1 = some r ∧ Ieee.double.sub l r = some d ∧ Ieee.double.add (ab l) (ab r) = some t ∧ Ieee.double.mul 4382002437431492608 t = some s ∧
      l < 2 ^ 64 ∧ r < 2 ^ 64 ∧ F d zd 0 ∧ F s S 50 ∧ (S < zd * 2 ^ 50 → 0 < A * D - B * C) ∧ (zd * 2 ^ 50 < -S → A * D - B * C < 0) := by
  have b1 := mul_le_p2 h1.p2 h4.p2
  have b2 := mul_le_p2 h2.p2 h3.p2
  obtain ⟨l, zl, e1, q1, f1⟩ := h1.word.mul h4.word (by omega) (small_Big b1 (by omega))
  obtain ⟨r, zr, e2, q2, f2⟩ := h2.word.mul h3.word (by omega) (small_Big b2 (by omega))
  have c1 := rnd_p2 q1 b1
  have c2 := rnd_p2 q2 b2
  have b3 := sub_le_p2 c1 c2
  obtain ⟨d, zd, e3, q3, f3⟩ := f1.sub f2 (by omega) (small_Big b3 (by omega))
  have b4 : (((zl.natAbs : Int) + (zr.natAbs : Int)).natAbs : Int) ≤ 2 ^ (55 + 55 + 1) := add_le_p2 (by simpa using c1) (by simpa using c2)
  obtain ⟨t, zt, e4, q4, f4⟩ := f1.abs.add f2.abs (by omega) (small_Big b4 (by omega))
  have c4 := rnd_p2 q4 b4
  obtain ⟨s, zs, e5, q5, f5⟩ := slack50.mul f4 (by omega) (by rw [Int.one_mul]; exact small_Big c4 (by omega))
  rw [Int.one_mul] at q5
  have hzs := q5.exact q4.rep
  subst hzs
  have E1 : E (A * D) zl zl.natAbs 391 := (((E.rnd h1.rnd).mul (E.rnd h4.rnd) (by omega) (by omega) (by omega) (by omega)).round q1 (by rw [Int.natAbs_mul, Int.natCast_mul]) (by omega) (by omega)).mono (by omega)
  have E2 : E (B * C) zr zr.natAbs 391 := (((E.rnd h2.rnd).mul (E.rnd h3.rnd) (by omega) (by omega) (by omega) (by omega)).round q2 (by rw [Int.natAbs_mul, Int.natCast_mul]) (by omega) (by omega)).mono (by omega)
  have E3 := (E1.sub E2).roundS q3 (by omega) (by omega)
  have G1 := G.rnd q4 (by omega)
  have e50 : (2 : Int) ^ 50 = 1125899906842624 := by decide
  have hs := sign_sure (m := 2 ^ 50) E3 G1 (by omega) (by omega) e50
  exact ⟨l, r, d, t, s, zd, zs, e1, e2, e3, e4, e5, f1.1, f2.1, f3, f5, hs.1, hs.2⟩

set_option maxHeartbeats 800000 in
theorem roughSide_any (ax ay bx by' cx cy : Int) (w : World) (h1 : Cd ax) (h2 : Cd ay) (h3 : Cd bx) (h4 : Cd by') (h5 : Cd cx) (h6 : Cd cy) :
    Calls Try.prog 56 #[.agg #[.int .i64 ax, .int .i64 ay], .agg #[.int .i64 bx, .int .i64 by'], .agg #[.int .i64 cx, .int .i64 cy]] w fun e w' =>
      ∃ (sg : Int) (b : Bool), e = .returned (.tuple #[.int .i64 sg, .bool b]) ∧ Hid (New w w' ∧ (b = true → sg = sgn (det ax ay bx by' cx cy))) := by
  go_enter Try.func56, Try.ntmps56
  go_wp2_with fail
  refine (roughApart_any bx by' ax ay _ h3 h4 h1 h2).mono ?_
  rintro e w1 ⟨rbx, rby, rfl, H1⟩
  have r1 := H1.out.1.rule
  go_wp2_with fail
  refine (roughApart_any cx cy ax ay _ h5 h6 h1 h2).mono ?_
  rintro e w2 ⟨rcx, rcy, rfl, H2⟩
  obtain ⟨l, r, d, t, s, zd, S, e1, e2, e3, e4, e5, hl, hr, fd, fs, k1, k2⟩ := roughSide_words H1.out.2.1 H1.out.2.2 H2.out.2.1 H2.out.2.2
  have HK : Hid ((S < zd * 2 ^ 50 → 0 < det ax ay bx by' cx cy) ∧ (zd * 2 ^ 50 < -S → det ax ay bx by' cx cy < 0) ∧ New w w2) := ⟨k1, k2, ((((New.alloc _ _).alloc' _).alloc' _).trans' H1.out.1).trans' H2.out.1⟩
  have g1 := fmul e1 81
  have g2 := fmul e2 81
  have g3 := fsub e3 81
  have g4 := fadd e4 81
  have g5 := fmul e5 81
  clear k1 k2 e1 e2 e3 e4 e5 r1 H1 H2
  go_wp2_with fail
  refine (abs_walk l _ hl).mono ?_
  rintro e w3 ⟨rfl, rfl⟩
  go_wp2_with fail
  refine (abs_walk r _ hr).mono ?_
  rintro e w4 ⟨rfl, rfl⟩
  go_wp2_with fail
  refine (signBeyond_any d s zd S 50 _ fd fs).mono ?_
  rintro e w5 ⟨sg, b, rfl, rfl, H5⟩
  go_wp2_with fail
  go_ret2
  refine ⟨sg, b, rfl, HK.out.2.2, fun hb => ?_⟩
  rcases H5.out hb with ⟨rfl, h⟩ | ⟨rfl, h⟩
  · have := HK.out.1 h
    unfold sgn; rw [if_neg (by omega), if_neg (by omega)]
  · have := HK.out.2.1 h
    unfold sgn; rw [if_pos this]

end Go.Proofs.Ytgeoffpcmkofkaa
