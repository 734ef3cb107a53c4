/- The walks of package side: 'newRoughRow', 'roughTerm'. -/
import Derived.Test.YtgeoffpcmkofkaaWi
import Derived.Deep.RegionHeld3
namespace Go.Proofs.Ytgeoffpcmkofkaa
open Go.RowKit Fl
set_option maxRecDepth 100000

/-- A row of the determinant, rounded. -/
structure RRow (X Y : Int) (x y s : Nat × Int) : Prop where
  dx : Df X x
  dy : Df Y y
  ws : F s.1 s.2 0
  err : E (X * X + Y * Y) s.2 s.2 521
  nn : 0 ≤ s.2
  small : (s.2.natAbs : Int) ≤ 2 ^ 111

theorem sq_nonneg (x : Int) : 0 ≤ x * x := by
  rcases Int.le_total 0 x with h | h
  · exact Int.mul_nonneg h h
  · have := Int.mul_nonneg (show 0 ≤ -x by omega) (show 0 ≤ -x by omega)
    have e : -x * -x = x * x := by grind
    omega

theorem rrow_words {X Y : Int} {x y : Nat × Int} (h1 : Df X x) (h2 : Df Y y) :
    ∃ (a b : Nat) (s : Nat × Int), Ieee.double.mul x.1 x.1 = some a ∧ Ieee.double.mul y.1 y.1 = some b ∧ Ieee.double.add a b = some s.1 ∧ RRow X Y x y s := by
  have b1 := mul_le_p2 h1.p2 h1.p2
  have b2 := mul_le_p2 h2.p2 h2.p2
  obtain ⟨a, za, e1, q1, f1⟩ := h1.word.mul h1.word (by omega) (small_Big b1 (by omega))
  obtain ⟨b, zb, e2, q2, f2⟩ := h2.word.mul h2.word (by omega) (small_Big b2 (by omega))
  have c1 := rnd_p2 q1 b1
  have c2 := rnd_p2 q2 b2
  have b3 := add_le_p2 c1 c2
  obtain ⟨s, zs, e3, q3, f3⟩ := f1.add f2 (by omega) (small_Big b3 (by omega))
  have na : 0 ≤ za := q1.ge Rep.zero (sq_nonneg _)
  have nb : 0 ≤ zb := q2.ge Rep.zero (sq_nonneg _)
  have ns : 0 ≤ zs := q3.ge Rep.zero (by omega)
  have E1 : E (X * X) za za.natAbs 391 := (((E.rnd h1.rnd).mul (E.rnd h1.rnd) (by omega) (by omega) (by omega) (by omega)).round q1 (by rw [Int.natAbs_mul, Int.natCast_mul]) (by omega) (by omega)).mono (by omega)
  have E2 : E (Y * Y) zb zb.natAbs 391 := (((E.rnd h2.rnd).mul (E.rnd h2.rnd) (by omega) (by omega) (by omega) (by omega)).round q2 (by rw [Int.natAbs_mul, Int.natCast_mul]) (by omega) (by omega)).mono (by omega)
  have E3 := (E1.add E2).round q3 (by omega) (by omega) (by omega)
  have e4 : ((zs.natAbs : Int)) = zs := by omega
  rw [e4] at E3
  exact ⟨a, b, (s, zs), e1, e2, e3, h1, h2, f3, E3.mono (by omega), ns, rnd_p2 q3 b3⟩

theorem New.below' {w w' : World} (h : New w w') : Below w.heap.size w w' := ⟨h.os, h.tape, h.output, h.size, fun k hk => h.block k hk (by simp)⟩
theorem Below.new' {w w' : World} (h : Below w.heap.size w w') : New w w' := ⟨h.os, h.tape, h.output, h.size, fun k hk _ => h.block k hk⟩
theorem New.frule' {W w1 : World} (h : New W w1) : ∀ b o, b < W.heap.size → w1.frozen? ⟨b, o, none⟩ = W.frozen? ⟨b, o, none⟩ :=
  fun b o hb => World.frozen?_of_block (a := ⟨b, o, none⟩) (h.block b hb (by simp))

theorem store_float (a : Addr) (b : Nat) (w : World) : (store a (.float .f64 b)).run Try.prog w = stored Try.prog w a (.float .f64 b) .plain := run_store Try.prog w a _ _ rfl

set_option maxHeartbeats 400000 in
theorem newRoughRow_any (px py dx dy : Int) (w : World) (h1 : Cd px) (h2 : Cd py) (h3 : Cd dx) (h4 : Cd dy) :
    Calls Try.prog 79 #[.agg #[.int .i64 px, .int .i64 py], .agg #[.int .i64 dx, .int .i64 dy]] w fun e w' =>
      ∃ x y s : Nat × Int, e = .returned (.agg #[.float .f64 x.1, .float .f64 y.1, .float .f64 s.1]) ∧ Hid (New w w' ∧ RRow (px - dx) (py - dy) x y s) := by
  go_enter Try.func79, Try.ntmps79
  go_wp2_with fail
  refine (roughApart_any px py dx dy _ h1 h2 h3 h4).mono ?_
  rintro e w1 ⟨x, y, rfl, H1⟩
  obtain ⟨a, b, s, e1, e2, e3, hr⟩ := rrow_words H1.out.2.1 H1.out.2.2
  have HR : Hid (New (((w.alloc (.cells #[.int .i64 px, .int .i64 py] 23)).alloc (.cells #[.int .i64 dx, .int .i64 dy] 23)).alloc (.cells #[.float .f64 0, .float .f64 0, .float .f64 0] 93)) w1 ∧ RRow (px - dx) (py - dy) x y s) := ⟨H1.out.1, hr⟩
  have g1 := fmul e1 81
  have g2 := fmul e2 81
  have g3 := fadd e3 81
  have q0 : w1.cell? ⟨w.heap.size + 1 + 1, 0, none⟩ = some (.float .f64 0) := by rw [HR.out.1.rule _ _ (by simp)]; go_simp
  have q1 : w1.cell? ⟨w.heap.size + 1 + 1, 1, none⟩ = some (.float .f64 0) := by rw [HR.out.1.rule _ _ (by simp)]; go_simp
  have q2 : w1.cell? ⟨w.heap.size + 1 + 1, 2, none⟩ = some (.float .f64 0) := by rw [HR.out.1.rule _ _ (by simp)]; go_simp
  have q3 : ∀ o, w1.frozen? ⟨w.heap.size + 1 + 1, o, none⟩ = false := by intro o; rw [HR.out.1.frule' _ _ (by simp)]; go_simp
  have hst := store_float
  have f0 := q3 0
  have f1 := q3 1
  have f2 := q3 2
  clear e1 e2 e3 H1 hr q3
  go_wp2_with fail
  refine bodyPost_ret (v := .agg #[.float .f64 x.1, .float .f64 y.1, .float .f64 s.1]) (by simp [results, Try.results79, go_sem, q0, q1, q2]) rfl ?_
  refine ⟨x, y, s, rfl, ?_, HR.out.2⟩
  exact Below.new' ((((New.below' ((((New.alloc w _).alloc' _).alloc' _).trans' HR.out.1)).setCell (p := ⟨w.heap.size + 1 + 1, 0, none⟩) (by simp <;> omega) (.float .f64 x.1)).setCell (p := ⟨w.heap.size + 1 + 1, 1, none⟩) (by simp <;> omega) (.float .f64 y.1)).setCell (p := ⟨w.heap.size + 1 + 1, 2, none⟩) (by simp <;> omega) (.float .f64 s.1))

/-- A term of the determinant, rounded, and its size. -/
structure RTerm (T : Int) (val size : Nat × Int) : Prop where
  wv : F val.1 val.2 0
  wz : F size.1 size.2 0
  err : ∃ s, E T val.2 s 1175 ∧ G s size.2 259
  sv : (val.2.natAbs : Int) ≤ 2 ^ 222
  sz : (size.2.natAbs : Int) ≤ 2 ^ 222

theorem rterm_words {A B C D X Y : Int} {ux uy us vx vy vs wx wy ws : Nat × Int} (hu : RRow X Y ux uy us) (hv : RRow A B vx vy vs) (hw : RRow C D wx wy ws) :
    ∃ (l r d t : Nat) (val size : Nat × Int), Ieee.double.mul vx.1 wy.1 = some l ∧ Ieee.double.mul vy.1 wx.1 = some r ∧ Ieee.double.sub l r = some d ∧ Ieee.double.mul us.1 d = some val.1 ∧ Ieee.double.add (ab l) (ab r) = some t ∧ Ieee.double.mul us.1 t = some size.1 ∧
      l < 2 ^ 64 ∧ r < 2 ^ 64 ∧ RTerm ((X * X + Y * Y) * (A * D - B * C)) val size := by
  have b1 := mul_le_p2 hv.dx.p2 hw.dy.p2
  have b2 := mul_le_p2 hv.dy.p2 hw.dx.p2
  obtain ⟨l, zl, e1, q1, f1⟩ := hv.dx.word.mul hw.dy.word (by omega) (small_Big b1 (by omega))
  obtain ⟨r, zr, e2, q2, f2⟩ := hv.dy.word.mul hw.dx.word (by omega) (small_Big b2 (by omega))
  have c1 := rnd_p2 q1 b1
  have c2 := rnd_p2 q2 b2
  have b3 := sub_le_p2 c1 c2
  obtain ⟨d, zd, e3, q3, f3⟩ := f1.sub f2 (by omega) (small_Big b3 (by omega))
  have c3 := rnd_p2 q3 b3
  have b4 : (((zl.natAbs : Int) + (zr.natAbs : Int)).natAbs : Int) ≤ 2 ^ (55 + 55 + 1) := add_le_p2 (by simpa using c1) (by simpa using c2)
  obtain ⟨t, zt, e4, q4, f4⟩ := f1.abs.add f2.abs (by omega) (small_Big b4 (by omega))
  have c4 := rnd_p2 q4 b4
  have b5 := mul_le_p2 hu.small c3
  have b6 := mul_le_p2 hu.small c4
  obtain ⟨v, zv, e5, q5, f5⟩ := hu.ws.mul f3 (by omega) (small_Big b5 (by omega))
  obtain ⟨z, zz, e6, q6, f6⟩ := hu.ws.mul f4 (by omega) (small_Big b6 (by omega))
  have E1 : E (A * D) zl zl.natAbs 391 := (((E.rnd hv.dx.rnd).mul (E.rnd hw.dy.rnd) (by omega) (by omega) (by omega) (by omega)).round q1 (by rw [Int.natAbs_mul, Int.natCast_mul]) (by omega) (by omega)).mono (by omega)
  have E2 : E (B * C) zr zr.natAbs 391 := (((E.rnd hv.dy.rnd).mul (E.rnd hw.dx.rnd) (by omega) (by omega) (by omega) (by omega)).round q2 (by rw [Int.natAbs_mul, Int.natCast_mul]) (by omega) (by omega)).mono (by omega)
  have E3 := (E1.sub E2).roundS q3 (by omega) (by omega)
  have E4 := ((hu.err.mul E3 (by omega) (by omega) (by omega) (by omega)).roundS q5 (by omega) (by omega)).mono (show _ ≤ 1175 by omega)
  have G1 := ((G.rnd q4 (by omega)).mul hu.nn).round q6 (by omega) (by omega)
  exact ⟨l, r, d, t, (v, zv), (z, zz), e1, e2, e3, e5, e4, e6, f1.1, f2.1, f5, f6, ⟨_, E4, G1⟩, rnd_p2 q5 b5, rnd_p2 q6 b6⟩

theorem abs_same (b : Nat) (w : World) (h : b < 2 ^ 64) : Calls Try.prog 74 #[.float .f64 b] w fun e w' => e = .returned (.float .f64 (ab b)) ∧ w' = w := abs_walk b w h

set_option maxHeartbeats 800000 in
theorem roughTerm_any {A B C D X Y : Int} {ux uy us vx vy vs wx wy ws : Nat × Int} (w : World) (hu : RRow X Y ux uy us) (hv : RRow A B vx vy vs) (hw : RRow C D wx wy ws) :
    Calls Try.prog 80 #[.agg #[.float .f64 ux.1, .float .f64 uy.1, .float .f64 us.1], .agg #[.float .f64 vx.1, .float .f64 vy.1, .float .f64 vs.1], .agg #[.float .f64 wx.1, .float .f64 wy.1, .float .f64 ws.1]] w fun e w' =>
      ∃ val size : Nat × Int, e = .returned (.tuple #[.float .f64 val.1, .float .f64 size.1]) ∧ Hid (New w w' ∧ RTerm ((X * X + Y * Y) * (A * D - B * C)) val size) := by
  obtain ⟨l, r, d, t, val, size, e1, e2, e3, e4, e5, e6, hl, hr, ht⟩ := rterm_words hu hv hw
  have HT : Hid (RTerm ((X * X + Y * Y) * (A * D - B * C)) val size) := ht
  have g1 := fmul e1 81
  have g2 := fmul e2 81
  have g3 := fsub e3 81
  have g4 := fmul e4 81
  have g5 := fadd e5 81
  have g6 := fmul e6 81
  clear e1 e2 e3 e4 e5 e6 ht hu hv hw
  go_enter Try.func80, Try.ntmps80
  go_wp2_with fail
  go_quiet (fail)
  go_wp2_with fail
  generalize hV : ((((w.alloc (.cells #[.float .f64 ux.1, .float .f64 uy.1, .float .f64 us.1] 93)).alloc (.cells #[.float .f64 vx.1, .float .f64 vy.1, .float .f64 vs.1] 93)).alloc (.cells #[.float .f64 wx.1, .float .f64 wy.1, .float .f64 ws.1] 93)).drewN nq) = V
  have hc : V.cell? ⟨w.heap.size, 2, none⟩ = some (.float .f64 us.1) := by subst hV; go_simp
  have HN : Hid (New w V) := by rw [← hV]; exact (((New.alloc _ _).alloc' _).alloc' _).drewN _
  clear hV
  go_quiet (first | (go_at_call 74; exact Calls.quiet_of_same (abs_same l _ hl)) | (go_at_call 74; exact Calls.quiet_of_same (abs_same r _ hr)))
  go_wp2_with fail
  go_ret2
  refine ⟨val, size, rfl, ?_, HT.out⟩
  exact HN.out.drewN _

end Go.Proofs.Ytgeoffpcmkofkaa
