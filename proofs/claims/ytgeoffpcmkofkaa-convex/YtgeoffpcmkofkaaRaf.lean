/- Wt; Wu; Wv; Fp; Ww; Wx; Wy; Wz: texts laid into one. -/
import Derived.Test.YtgeoffpcmkofkaaRae
import Derived.Deep.RegionHeld3
/- The walks of package side: 'newRoughRow', 'roughTerm'. -/
namespace Go.Proofs.Ytgeoffpcmkofkaa
open Go.RowKit Fl
set_option maxRecDepth 100000

/-- A row of the determinant, rounded. -/
structure RRow (X Y : Int) (x y s : Nat × Int) : Prop where
  dx : Df X x
  dy : Df Y y
  ws : F s.1 s.2 0
  err : E (X * X + Y * Y) s.2 s.2 521
  nn : 0 ≤ s.2
  small : (s.2.natAbs : Int) ≤ 2 ^ 111

theorem sq_nonneg (x : Int) : 0 ≤ x * x := by
  rcases Int.le_total 0 x with h | h
  · exact Int.mul_nonneg h h
  · have := Int.mul_nonneg (show 0 ≤ -x by omega) (show 0 ≤ -x by omega)
    have e : -x * -x = x * x := by grind
    omega

theorem rrow_words {X Y : Int} {x y : Nat × Int} (h1 : Df X x) (h2 : Df Y y) :
    ∃ (a b : Nat) (s : Nat × Int), Ieee.double.mul x.1 x.1 = some a ∧ Ieee.double.mul y.1 y.1 = some b ∧ Ieee.double.add a b = some s.1 ∧ RRow X Y x y s := by
  have b1 := mul_le_p2 h1.p2 h1.p2
  have b2 := mul_le_p2 h2.p2 h2.p2
  obtain ⟨a, za, e1, q1, f1⟩ := h1.word.mul h1.word (by omega) (small_Big b1 (by omega))
  obtain ⟨b, zb, e2, q2, f2⟩ := h2.word.mul h2.word (by omega) (small_Big b2 (by omega))
  have c1 := rnd_p2 q1 b1
  have c2 := rnd_p2 q2 b2
  have b3 := add_le_p2 c1 c2
  obtain ⟨s, zs, e3, q3, f3⟩ := f1.add f2 (by omega) (small_Big b3 (by omega))
  have na : 0 ≤ za := q1.ge Rep.zero (sq_nonneg _)
  have nb : 0 ≤ zb := q2.ge Rep.zero (sq_nonneg _)
  have ns : 0 ≤ zs := q3.ge Rep.zero (by omega)
  have E1 : E (X * X) za za.natAbs 391 := (((E.rnd h1.rnd).mul (E.rnd h1.rnd) (by omega) (by omega) (by omega) (by omega)).round q1 (by rw [Int.natAbs_mul, Int.natCast_mul]) (by omega) (by omega)).mono (by omega)
  have E2 : E (Y * Y) zb zb.natAbs 391 := (((E.rnd h2.rnd).mul (E.rnd h2.rnd) (by omega) (by omega) (by omega) (by omega)).round q2 (by rw [Int.natAbs_mul, Int.natCast_mul]) (by omega) (by omega)).mono (by omega)
  have E3 := (E1.add E2).round q3 (by omega) (by omega) (by omega)
  have e4 : ((zs.natAbs : Int)) = zs := by omega
  rw [e4] at E3
  exact ⟨a, b, (s, zs), e1, e2, e3, h1, h2, f3, E3.mono (by omega), ns, rnd_p2 q3 b3⟩

theorem New.below' {w w' : World} (h : New w w') : Below w.heap.size w w' := ⟨h.os, h.tape, h.output, h.size, fun k hk => h.block k hk (by simp)⟩
theorem Below.new' {w w' : World} (h : Below w.heap.size w w') : New w w' := ⟨h.os, h.tape, h.output, h.size, fun k hk _ => h.block k hk⟩
theorem New.frule' {W w1 : World} (h : New W w1) : ∀ b o, b < W.heap.size → w1.frozen? ⟨b, o, none⟩ = W.frozen? ⟨b, o, none⟩ :=
  fun b o hb => World.frozen?_of_block (a := ⟨b, o, none⟩) (h.block b hb (by simp))

theorem store_float (a : Addr) (b : Nat) (w : World) : (store a (.float .f64 b)).run Try.prog w = stored Try.prog w a (.float .f64 b) .plain := run_store Try.prog w a _ _ rfl

set_option maxHeartbeats 400000 in
theorem newRoughRow_any (px py dx dy : Int) (w : World) (h1 : Cd px) (h2 : Cd py) (h3 : Cd dx) (h4 : Cd dy) :
    Calls Try.prog 79 #[.agg #[.int .i64 px, .int .i64 py], .agg #[.int .i64 dx, .int .i64 dy]] w fun e w' =>
      ∃ x y s : Nat × Int, e = .returned (.agg #[.float .f64 x.1, .float .f64 y.1, .float .f64 s.1]) ∧ Hid (New w w' ∧ RRow (px - dx) (py - dy) x y s) := by
  go_enter Try.func79, Try.ntmps79
  go_wp2_with fail
  refine (roughApart_any px py dx dy _ h1 h2 h3 h4).mono ?_
  rintro e w1 ⟨x, y, rfl, H1⟩
  obtain ⟨a, b, s, e1, e2, e3, hr⟩ := rrow_words H1.out.2.1 H1.out.2.2
  have HR : Hid (New (((w.alloc (.cells #[.int .i64 px, .int .i64 py] 23)).alloc (.cells #[.int .i64 dx, .int .i64 dy] 23)).alloc (.cells #[.float .f64 0, .float .f64 0, .float .f64 0] 93)) w1 ∧ RRow (px - dx) (py - dy) x y s) := ⟨H1.out.1, hr⟩
  have g1 := fmul e1 81
  have g2 := fmul e2 81
  have g3 := fadd e3 81
  have q0 : w1.cell? ⟨w.heap.size + 1 + 1, 0, none⟩ = some (.float .f64 0) := by rw [HR.out.1.rule _ _ (by simp)]; go_simp
  have q1 : w1.cell? ⟨w.heap.size + 1 + 1, 1, none⟩ = some (.float .f64 0) := by rw [HR.out.1.rule _ _ (by simp)]; go_simp
  have q2 : w1.cell? ⟨w.heap.size + 1 + 1, 2, none⟩ = some (.float .f64 0) := by rw [HR.out.1.rule _ _ (by simp)]; go_simp
  have q3 : ∀ o, w1.frozen? ⟨w.heap.size + 1 + 1, o, none⟩ = false := by intro o; rw [HR.out.1.frule' _ _ (by simp)]; go_simp
  have hst := store_float
  have f0 := q3 0
  have f1 := q3 1
  have f2 := q3 2
  clear e1 e2 e3 H1 hr q3
  go_wp2_with fail
  refine bodyPost_ret (v := .agg #[.float .f64 x.1, .float .f64 y.1, .float .f64 s.1]) (by simp [results, Try.results79, go_sem, q0, q1, q2]) rfl ?_
  refine ⟨x, y, s, rfl, ?_, HR.out.2⟩
  exact Below.new' ((((New.below' ((((New.alloc w _).alloc' _).alloc' _).trans' HR.out.1)).setCell (p := ⟨w.heap.size + 1 + 1, 0, none⟩) (by simp <;> omega) (.float .f64 x.1)).setCell (p := ⟨w.heap.size + 1 + 1, 1, none⟩) (by simp <;> omega) (.float .f64 y.1)).setCell (p := ⟨w.heap.size + 1 + 1, 2, none⟩) (by simp <;> omega) (.float .f64 s.1))

/-- A term of the determinant, rounded, and its size. -/
structure RTerm (T : Int) (val size : Nat × Int) : Prop where
  wv : F val.1 val.2 0
  wz : F size.1 size.2 0
  err : ∃ s, E T val.2 s 1175 ∧ G s size.2 259
  sv : (val.2.natAbs : Int) ≤ 2 ^ 222
  sz : (size.2.natAbs : Int) ≤ 2 ^ 222

theorem rterm_words {A B C D X Y : Int} {ux uy us vx vy vs wx wy ws : Nat × Int} (hu : RRow X Y ux uy us) (hv : RRow A B vx vy vs) (hw : RRow C D wx wy ws) :
    ∃ (l r d t : Nat) (val size : Nat × Int), Ieee.double.mul vx.1 wy.1 = some l ∧ Ieee.double.mul vy.1 wx.1 = some r ∧ Ieee.double.sub l r = some d ∧ Ieee.double.mul us.1 d = some val.1 ∧ Ieee.double.add (ab l) (ab r) = some t ∧ Ieee.double.mul us.1 t = some size.1 ∧
      l < 2 ^ 64 ∧ r < 2 ^ 64 ∧ RTerm ((X * X + Y * Y) * (A * D - B * C)) val size := by
  have b1 := mul_le_p2 hv.dx.p2 hw.dy.p2
  have b2 := mul_le_p2 hv.dy.p2 hw.dx.p2
  obtain ⟨l, zl, e1, q1, f1⟩ := hv.dx.word.mul hw.dy.word (by omega) (small_Big b1 (by omega))
  obtain ⟨r, zr, e2, q2, f2⟩ := hv.dy.word.mul hw.dx.word (by omega) (small_Big b2 (by omega))
  have c1 := rnd_p2 q1 b1
  have c2 := rnd_p2 q2 b2
  have b3 := sub_le_p2 c1 c2
  obtain ⟨d, zd, e3, q3, f3⟩ := f1.sub f2 (by omega) (small_Big b3 (by omega))
  have c3 := rnd_p2 q3 b3
  have b4 : (((zl.natAbs : Int) + (zr.natAbs : Int)).natAbs : Int) ≤ 2 ^ (55 + 55 + 1) := add_le_p2 (by simpa using c1) (by simpa using c2)
  obtain ⟨t, zt, e4, q4, f4⟩ := f1.abs.add f2.abs (by omega) (small_Big b4 (by omega))
  have c4 := rnd_p2 q4 b4
  have b5 := mul_le_p2 hu.small c3
  have b6 := mul_le_p2 hu.small c4
  obtain ⟨v, zv, e5, q5, f5⟩ := hu.ws.mul f3 (by omega) (small_Big b5 (by omega))
  obtain ⟨z, zz, e6, q6, f6⟩ := hu.ws.mul f4 (by omega) (small_Big b6 (by omega))
  have E1 : E (A * D) zl zl.natAbs 391 := (((E.rnd hv.dx.rnd).mul (E.rnd hw.dy.rnd) (by omega) (by omega) (by omega) (by omega)).round q1 (by rw [Int.natAbs_mul, Int.natCast_mul]) (by omega) (by omega)).mono (by omega)
  have E2 : E (B * C) zr zr.natAbs 391 := (((E.rnd hv.dy.rnd).mul (E.rnd hw.dx.rnd) (by omega) (by omega) (by omega) (by omega)).round q2 (by rw [Int.natAbs_mul, Int.natCast_mul]) (by omega) (by omega)).mono (by omega)
  have E3 := (E1.sub E2).roundS q3 (by omega) (by omega)
  have E4 := ((hu.err.mul E3 (by omega) (by omega) (by omega) (by omega)).roundS q5 (by omega) (by omega)).mono (show _ ≤ 1175 by omega)
  have G1 := ((G.rnd q4 (by omega)).mul hu.nn).round q6 (by omega) (by omega)
  exact ⟨l, r, d, t, (v, zv), (z, zz), e1, e2, e3, e5, e4, e6, f1.1, f2.1, f5, f6, ⟨_, E4, G1⟩, rnd_p2 q5 b5, rnd_p2 q6 b6⟩

theorem abs_same (b : Nat) (w : World) (h : b < 2 ^ 64) : Calls Try.prog 74 #[.float .f64 b] w fun e w' => e = .returned (.float .f64 (ab b)) ∧ w' = w := abs_walk b w h

set_option maxHeartbeats 800000 in
theorem roughTerm_any {A B C D X Y : Int} {ux uy us vx vy vs wx wy ws : Nat × Int} (w : World) (hu : RRow X Y ux uy us) (hv : RRow A B vx vy vs) (hw : RRow C D wx wy ws) :
    Calls Try.prog 80 #[.agg #[.float .f64 ux.1, .float .f64 uy.1, .float .f64 us.1], .agg #[.float .f64 vx.1, .float .f64 vy.1, .float .f64 vs.1], .agg #[.float .f64 wx.1, .float .f64 wy.1, .float .f64 ws.1]] w fun e w' =>
      ∃ val size : Nat × Int, e = .returned (.tuple #[.float .f64 val.1, .float .f64 size.1]) ∧ Hid (New w w' ∧ RTerm ((X * X + Y * Y) * (A * D - B * C)) val size) := by
  obtain ⟨l, r, d, t, val, size, e1, e2, e3, e4, e5, e6, hl, hr, ht⟩ := rterm_words hu hv hw
  have HT : Hid (RTerm ((X * X + Y * Y) * (A * D - B * C)) val size) := ht
  have g1 := fmul e1 81
  have g2 := fmul e2 81
  have g3 := fsub e3 81
  have g4 := fmul e4 81
  have g5 := fadd e5 81
  have g6 := fmul e6 81
  clear e1 e2 e3 e4 e5 e6 ht hu hv hw
  go_enter Try.func80, Try.ntmps80
  go_wp2_with fail
  go_quiet (fail)
  go_wp2_with fail
  generalize hV : ((((w.alloc (.cells #[.float .f64 ux.1, .float .f64 uy.1, .float .f64 us.1] 93)).alloc (.cells #[.float .f64 vx.1, .float .f64 vy.1, .float .f64 vs.1] 93)).alloc (.cells #[.float .f64 wx.1, .float .f64 wy.1, .float .f64 ws.1] 93)).drewN nq) = V
  have hc : V.cell? ⟨w.heap.size, 2, none⟩ = some (.float .f64 us.1) := by subst hV; go_simp
  have HN : Hid (New w V) := by rw [← hV]; exact (((New.alloc _ _).alloc' _).alloc' _).drewN _
  clear hV
  go_quiet (first | (go_at_call 74; exact Calls.quiet_of_same (abs_same l _ hl)) | (go_at_call 74; exact Calls.quiet_of_same (abs_same r _ hr)))
  go_wp2_with fail
  go_ret2
  refine ⟨val, size, rfl, ?_, HT.out⟩
  exact HN.out.drewN _

end Go.Proofs.Ytgeoffpcmkofkaa
/- The walks of package side: 'newExactRow', 'exactTerm'. -/
namespace Go.Proofs.Ytgeoffpcmkofkaa
open Go.RowKit Fl
set_option maxRecDepth 100000

/-- A row of the determinant, not rounded, in memory. -/
structure ERow (w : World) (X Y : Int) (g1 g2 g3 c3 : Nat) (x y s : Ws) : Prop where
  nx : Nm w g1 2 x X 55 2
  ny : Nm w g2 2 y Y 55 2
  ns : Nm w g3 c3 s (X * X + Y * Y) 113 16

theorem ERow.kept {w w' : World} {X Y : Int} {g1 g2 g3 c3 : Nat} {x y s : Ws} (h : ERow w X Y g1 g2 g3 c3 x y s) (hn : New w w') : ERow w' X Y g1 g2 g3 c3 x y s :=
  ⟨h.nx.kept hn, h.ny.kept hn, h.ns.kept hn⟩

/-- A block that is written lies apart from an expansion. -/
theorem Lst.set3 {w : World} {g cap b : Nat} {ws : Ws} (h : Lst w g cap ws) (hb : g ≠ b) (x y z : Value) : Lst (((w.setCell ⟨b, 0, none⟩ x).setCell ⟨b, 1, none⟩ y).setCell ⟨b, 2, none⟩ z) g cap ws := by
  obtain ⟨cur, h1, h2⟩ := h.row
  refine ⟨⟨cur, ?_, h2⟩, h.words, h.ex, h.small⟩
  rw [heap_setCell_other _ ⟨b, 2, none⟩ g z hb, heap_setCell_other _ ⟨b, 1, none⟩ g y hb, heap_setCell_other _ ⟨b, 0, none⟩ g x hb]
  exact h1

theorem Nm.set3 {w : World} {g cap b : Nat} {ws : Ws} {v : Int} {m n : Nat} (h : Nm w g cap ws v m n) (hb : g ≠ b) (x y z : Value) : Nm (((w.setCell ⟨b, 0, none⟩ x).setCell ⟨b, 1, none⟩ y).setCell ⟨b, 2, none⟩ z) g cap ws v m n :=
  ⟨h.lst.set3 hb x y z, h.tot, h.mass, h.len⟩

/-- The block of an expansion is none of another type. -/
theorem Lst.ne_block {w : World} {g cap b : Nat} {ws : Ws} {cs : Array Value} {t : TypeId} (h : Lst w g cap ws) (hb : w.heap[b]? = some (.cells cs t (0, 0))) (ht : t ≠ 81) : g ≠ b := by
  rintro rfl
  obtain ⟨cur, h1, _⟩ := h.row
  rw [hb] at h1
  simp at h1
  exact ht h1.2

set_option maxHeartbeats 800000 in
theorem newExactRow_any (px py dx dy : Int) (w : World) (h1 : Cd px) (h2 : Cd py) (h3 : Cd dx) (h4 : Cd dy) :
    Calls Try.prog 81 #[.agg #[.int .i64 px, .int .i64 py], .agg #[.int .i64 dx, .int .i64 dy]] w fun e w' =>
      ∃ (g1 g2 g3 c3 : Nat) (x y s : Ws), e = .returned (.agg #[.slice (some ⟨g1, 0, none⟩) x.length 2, .slice (some ⟨g2, 0, none⟩) y.length 2, .slice (some ⟨g3, 0, none⟩) s.length c3]) ∧ Hid (New w w' ∧ ERow w' (px - dx) (py - dy) g1 g2 g3 c3 x y s) := by
  go_enter Try.func81, Try.ntmps81
  go_wp2_with fail
  refine (exactApart_any px py dx dy _ h1 h2 h3 h4).mono ?_
  rintro e w1 ⟨g1, g2, x, y, rfl, H1⟩
  go_wp2_with fail
  refine (times_nm H1.out.1 H1.out.1 (by omega) (by omega) (by omega)).mono ?_
  rintro e w2 ⟨g3, c3, p, rfl, H2⟩
  go_wp2_with fail
  refine (times_nm (H1.out.2.1.kept H2.out.2.2) (H1.out.2.1.kept H2.out.2.2) (by omega) (by omega) (by omega)).mono ?_
  rintro e w3 ⟨g4, c4, q, rfl, H3⟩
  go_wp2_with fail
  refine (plus_nm (H2.out.1.kept H3.out.2.2) H3.out.1 (by omega) (by omega) (by omega)).mono ?_
  rintro e w4 ⟨g5, c5, s, rfl, H4⟩
  have HN : Hid (New (((w.alloc (.cells #[.int .i64 px, .int .i64 py] 23)).alloc (.cells #[.int .i64 dx, .int .i64 dy] 23)).alloc (.cells #[.slice none 0 0, .slice none 0 0, .slice none 0 0] 97)) w4) := ((H1.out.2.2.2.2.trans' H2.out.2.2).trans' H3.out.2.2).trans' H4.out.2.2
  have hR : w4.heap[w.heap.size + 1 + 1]? = some (.cells #[.slice none 0 0, .slice none 0 0, .slice none 0 0] 97 (0, 0)) := by
    rw [HN.out.block _ (by simp) (by simp)]
    have := _root_.Go.heap_alloc_new ((w.alloc (.cells #[.int .i64 px, .int .i64 py] 23)).alloc (.cells #[.int .i64 dx, .int .i64 dy] 23)) (.cells #[.slice none 0 0, .slice none 0 0, .slice none 0 0] 97)
    simpa using this
  have HR : Hid (w4.heap[w.heap.size + 1 + 1]? = some (.cells #[.slice none 0 0, .slice none 0 0, .slice none 0 0] 97 (0, 0))) := hR
  have q0 : w4.cell? ⟨w.heap.size + 1 + 1, 0, none⟩ = some (.slice none 0 0) := by simp [World.cell?, hR]
  have q1 : w4.cell? ⟨w.heap.size + 1 + 1, 1, none⟩ = some (.slice none 0 0) := by simp [World.cell?, hR]
  have q2 : w4.cell? ⟨w.heap.size + 1 + 1, 2, none⟩ = some (.slice none 0 0) := by simp [World.cell?, hR]
  have f0 : w4.frozen? ⟨w.heap.size + 1 + 1, 0, none⟩ = false := by simp [World.frozen?, hR]
  have f1 : w4.frozen? ⟨w.heap.size + 1 + 1, 1, none⟩ = false := by simp [World.frozen?, hR]
  have f2 : w4.frozen? ⟨w.heap.size + 1 + 1, 2, none⟩ = false := by simp [World.frozen?, hR]
  clear hR
  go_wp2_with fail
  refine bodyPost_ret (v := .agg #[.slice (some ⟨g1, 0, none⟩) x.length 2, .slice (some ⟨g2, 0, none⟩) y.length 2, .slice (some ⟨g5, 0, none⟩) s.length c5]) (by simp [results, Try.results81, go_sem, q0, q1, q2]) rfl ?_
  have kx := ((H1.out.1.kept H2.out.2.2).kept H3.out.2.2).kept H4.out.2.2
  have ky := ((H1.out.2.1.kept H2.out.2.2).kept H3.out.2.2).kept H4.out.2.2
  refine ⟨g1, g2, g5, c5, x, y, s, rfl, ?_, kx.set3 (kx.lst.ne_block HR.out (by decide)) _ _ _, ky.set3 (ky.lst.ne_block HR.out (by decide)) _ _ _, H4.out.1.set3 (H4.out.1.lst.ne_block HR.out (by decide)) _ _ _⟩
  exact Below.new' ((((New.below' ((((New.alloc w _).alloc' _).alloc' _).trans' HN.out)).setCell (p := ⟨w.heap.size + 1 + 1, 0, none⟩) (by simp <;> omega) _).setCell (p := ⟨w.heap.size + 1 + 1, 1, none⟩) (by simp <;> omega) _).setCell (p := ⟨w.heap.size + 1 + 1, 2, none⟩) (by simp <;> omega) _)

theorem five_keep {W w' : World} {g : Nat} {p q r s t : Value} (hn : New W w') (hs : g + 1 + 1 < W.heap.size ∧ W.cell? ⟨g, 2, none⟩ = some p ∧ W.cell? ⟨g + 1, 0, none⟩ = some q ∧ W.cell? ⟨g + 1, 1, none⟩ = some r ∧ W.cell? ⟨g + 1 + 1, 0, none⟩ = some s ∧ W.cell? ⟨g + 1 + 1, 1, none⟩ = some t) :
    g + 1 + 1 < w'.heap.size ∧ w'.cell? ⟨g, 2, none⟩ = some p ∧ w'.cell? ⟨g + 1, 0, none⟩ = some q ∧ w'.cell? ⟨g + 1, 1, none⟩ = some r ∧ w'.cell? ⟨g + 1 + 1, 0, none⟩ = some s ∧ w'.cell? ⟨g + 1 + 1, 1, none⟩ = some t := by
  obtain ⟨h0, h1, h2, h3, h4, h5⟩ := hs
  have := hn.size
  refine ⟨by omega, ?_, ?_, ?_, ?_, ?_⟩
  all_goals (rw [hn.rule _ _ (by omega)]; assumption)

set_option maxHeartbeats 1600000 in
theorem exactTerm_any {A B C D X Y : Int} {ux uy us cs vx vy vs dv wx wy ws ew : Nat} {k l s p q t m n o : Ws} (w : World) (hu : ERow w X Y ux uy us cs k l s) (hv : ERow w A B vx vy vs dv p q t) (hw : ERow w C D wx wy ws ew m n o) :
    Calls Try.prog 82 #[.agg #[.slice (some ⟨ux, 0, none⟩) k.length 2, .slice (some ⟨uy, 0, none⟩) l.length 2, .slice (some ⟨us, 0, none⟩) s.length cs], .agg #[.slice (some ⟨vx, 0, none⟩) p.length 2, .slice (some ⟨vy, 0, none⟩) q.length 2, .slice (some ⟨vs, 0, none⟩) t.length dv], .agg #[.slice (some ⟨wx, 0, none⟩) m.length 2, .slice (some ⟨wy, 0, none⟩) n.length 2, .slice (some ⟨ws, 0, none⟩) o.length ew]] w fun e w' =>
      ∃ (g c : Nat) (z : Ws), e = .returned (.slice (some ⟨g, 0, none⟩) z.length c) ∧ Hid (New w w' ∧ Nm w' g c z ((X * X + Y * Y) * (A * D - B * C)) 227 512) := by
  obtain ⟨W, hW⟩ : ∃ W, W = ((w.alloc (.cells #[.slice (some ⟨ux, 0, none⟩) k.length 2, .slice (some ⟨uy, 0, none⟩) l.length 2, .slice (some ⟨us, 0, none⟩) s.length cs] 97)).alloc (.cells #[.slice (some ⟨vx, 0, none⟩) p.length 2, .slice (some ⟨vy, 0, none⟩) q.length 2, .slice (some ⟨vs, 0, none⟩) t.length dv] 97)).alloc (.cells #[.slice (some ⟨wx, 0, none⟩) m.length 2, .slice (some ⟨wy, 0, none⟩) n.length 2, .slice (some ⟨ws, 0, none⟩) o.length ew] 97) := ⟨_, rfl⟩
  have HW : Hid (New w W.drew) := by rw [hW]; exact (((New.alloc _ _).alloc' _).alloc' _).drewN 1
  have hS : w.heap.size + 1 + 1 < W.heap.size ∧ W.cell? ⟨w.heap.size, 2, none⟩ = some (.slice (some ⟨us, 0, none⟩) s.length cs) ∧ W.cell? ⟨w.heap.size + 1, 0, none⟩ = some (.slice (some ⟨vx, 0, none⟩) p.length 2) ∧ W.cell? ⟨w.heap.size + 1, 1, none⟩ = some (.slice (some ⟨vy, 0, none⟩) q.length 2) ∧ W.cell? ⟨w.heap.size + 1 + 1, 0, none⟩ = some (.slice (some ⟨wx, 0, none⟩) m.length 2) ∧ W.cell? ⟨w.heap.size + 1 + 1, 1, none⟩ = some (.slice (some ⟨wy, 0, none⟩) n.length 2) := by
    rw [hW]
    refine ⟨by simp, ?_, ?_, ?_, ?_, ?_⟩ <;> go_simp
  go_enter Try.func82, Try.ntmps82
  go_wp2_with fail
  rw [← hW]
  clear hW
  go_region_held3 (fun w' => w.heap.size + 1 + 1 < w'.heap.size ∧ w'.cell? ⟨w.heap.size, 2, none⟩ = some (.slice (some ⟨us, 0, none⟩) s.length cs) ∧ w'.cell? ⟨w.heap.size + 1, 0, none⟩ = some (.slice (some ⟨vx, 0, none⟩) p.length 2) ∧ w'.cell? ⟨w.heap.size + 1, 1, none⟩ = some (.slice (some ⟨vy, 0, none⟩) q.length 2) ∧ w'.cell? ⟨w.heap.size + 1 + 1, 0, none⟩ = some (.slice (some ⟨wx, 0, none⟩) m.length 2) ∧ w'.cell? ⟨w.heap.size + 1 + 1, 1, none⟩ = some (.slice (some ⟨wy, 0, none⟩) n.length 2))
    (first | exact hS | exact five_keep H4.out.2.2 (by assumption) | exact five_keep H3.out.2.2 (by assumption) | exact five_keep H2.out.2.2 (by assumption) | exact five_keep H1.out.2.2 (by assumption) | go_keep)
    (first
      | (go_at_call_of 76 vx; refine (times_nm (hv.nx.kept HW.out) (hw.ny.kept HW.out) (by omega) (by omega) (by omega)).mono ?_; rintro e w1 ⟨g1, c1, z1, rfl, H1⟩)
      | (go_at_call_of 76 vy; refine (times_nm ((hv.ny.kept HW.out).kept H1.out.2.2) ((hw.nx.kept HW.out).kept H1.out.2.2) (by omega) (by omega) (by omega)).mono ?_; rintro e w2 ⟨g2, c2, z2, rfl, H2⟩)
      | (go_at_call 77; refine (minus_nm (H1.out.1.kept H2.out.2.2) H2.out.1 (by omega) (by omega) (by omega)).mono ?_; rintro e w3 ⟨g3, c3, z3, rfl, H3⟩)
      | (go_at_call_of 76 us; refine (times_nm ((((hu.ns.kept HW.out).kept H1.out.2.2).kept H2.out.2.2).kept H3.out.2.2) H3.out.1 (by omega) (by omega) (by omega)).mono ?_; rintro e w4 ⟨g4, c4, z4, rfl, H4⟩))
  go_wp2_with fail
  go_ret
  exact ⟨g4, c4, z4, rfl, (((HW.out.trans' H1.out.2.2).trans' H2.out.2.2).trans' H3.out.2.2).trans' H4.out.2.2, H4.out.1⟩

end Go.Proofs.Ytgeoffpcmkofkaa
/- A region that draws its order, by an invariant: each operation that may come up keeps it. -/
namespace Go.Proofs.Ytgeoffpcmkofkaa
open Go.RowKit
set_option maxRecDepth 100000

section
variable {P : Program} {ops : Array Oper} {Q : Exit → Act → World → Prop} {md : Region.Mode}

/-- An operation may come up: it has not, and what it waits for has. -/
structure Rdy (md : Region.Mode) (listed : Array Bool) (i : Nat) (o : Oper) : Prop where
  mine : listed.getD i true = false
  ahead : ∀ e ∈ o.after, Region.binds md e = true → listed.getD e.on false = true

theorem ready_iff {listed : Array Bool} {i : Nat} (h : i ∈ Region.ready md ops listed) : ∃ o, ops[i]? = some o ∧ i < ops.size ∧ Rdy md listed i o := by
  unfold Region.ready at h
  rw [List.mem_filter] at h
  obtain ⟨h1, h2⟩ := h
  have hi : i < ops.size := by simpa using h1
  rw [Bool.and_eq_true] at h2
  refine ⟨ops[i], Array.getElem?_eq_getElem hi, hi, by simpa using h2.1, ?_⟩
  have h3 := h2.2
  rw [Array.getElem?_eq_getElem hi] at h3
  simp only [Option.map_some, Option.getD_some] at h3
  rw [Array.all_eq_true_iff_forall_mem] at h3
  intro e he hb
  have := h3 e he
  rw [hb] at this
  simpa using this

theorem ready_of {listed : Array Bool} {i : Nat} {o : Oper} (ho : ops[i]? = some o) (h : Rdy md listed i o) : i ∈ Region.ready md ops listed := by
  unfold Region.ready
  rw [List.mem_filter]
  have hi : i < ops.size := (Array.getElem?_eq_some_iff.1 ho).1
  refine ⟨by simpa using hi, ?_⟩
  rw [Bool.and_eq_true, ho]
  refine ⟨by simp [h.mine], ?_⟩
  simp only [Option.map_some, Option.getD_some]
  rw [Array.all_eq_true_iff_forall_mem]
  intro e he
  by_cases hb : Region.binds md e = true
  · rw [h.ahead e he hb]; simp
  · simp [Bool.eq_false_iff.2 hb]

theorem count_set_true : ∀ (l : List Bool) (i : Nat) (h : i < l.length), l[i] = false → l.count false = (l.set i true).count false + 1
  | [], i, h, _ => absurd h (by simp)
  | x :: l, 0, _, hx => by
    have hx' : x = false := hx
    subst hx'
    simp
  | x :: l, i + 1, h, hx => by
    have := count_set_true l i (by simpa using h) hx
    simp only [List.set_cons_succ, List.count_cons, this]
    omega

def left (listed : Array Bool) : Nat := listed.toList.count false

theorem left_set {listed : Array Bool} {i : Nat} (h : listed.getD i true = false) : left listed = left (listed.setIfInBounds i true) + 1 := by
  have hi : i < listed.size := by
    rcases Nat.lt_or_ge i listed.size with h1 | h1
    · exact h1
    · simp [Array.getD, Nat.not_lt.2 h1] at h
  have hv : listed.toList[i]'(by simpa using hi) = false := by simpa [Array.getD, hi] using h
  unfold left
  rw [Array.toList_setIfInBounds]
  exact count_set_true _ i (by simpa using hi) hv

/-- All have come up where none may. -/
theorem all_listed {listed : Array Bool} (hs : listed.size = ops.size) (hac : ∀ (i : Nat) (o : Oper), ops[i]? = some o → ∀ e ∈ o.after, Region.binds md e = true → e.on < i) (h : Region.ready md ops listed = []) : ∀ i, i < ops.size → listed.getD i false = true := by
  intro i
  induction i using Nat.strongRecOn with
  | _ i ih =>
    intro hi
    rcases Bool.eq_false_or_eq_true (listed.getD i false) with h1 | h1
    · exact h1
    · exfalso
      have hm : listed.getD i true = false := by simpa [Array.getD, hs, hi] using h1
      have : i ∈ Region.ready md ops listed := ready_of (Array.getElem?_eq_getElem hi) ⟨hm, fun e he hb => ih e.on (hac i _ (Array.getElem?_eq_getElem hi) e he hb) (Nat.lt_trans (hac i _ (Array.getElem?_eq_getElem hi) e he hb) hi)⟩
      rw [h] at this
      simp at this

theorem wpAny_inv (I : Array Bool → Act → World → Prop) (hac : ∀ (i : Nat) (o : Oper), ops[i]? = some o → ∀ e ∈ o.after, Region.binds md e = true → e.on < i) (hg : ∀ (i : Nat) (o : Oper), ops[i]? = some o → o.guard = none)
    (step : ∀ listed a w i o, I listed a w → ops[i]? = some o → Rdy md listed i o → o.wp P a w (fun a' w' => I (listed.setIfInBounds i true) a' w') Q)
    (fin : ∀ listed a w, I listed a w → (∀ i, i < ops.size → listed.getD i false = true) → Q .normal a w) :
    ∀ fuel listed a w, listed.size = ops.size → left listed = fuel → I listed a w → wpAny P md ops Q fuel listed a w := by
  intro fuel
  induction fuel with
  | zero =>
    intro listed a w hs hl hI
    have hr : Region.ready md ops listed = [] := by
      rw [List.eq_nil_iff_forall_not_mem]
      intro i hi
      obtain ⟨o, ho, hlt, hrd⟩ := ready_iff hi
      have := left_set hrd.mine
      omega
    exact ⟨hr, fin listed a w hI (all_listed hs hac hr)⟩
  | succ fuel ih =>
    intro listed a w hs hl hI
    refine ⟨fun hr => fin listed a w hI (all_listed hs hac hr), fun i hi => ?_⟩
    obtain ⟨o, ho, hlt, hrd⟩ := ready_iff hi
    have hwant : Region.wanted o (yielded ops a.tmps) = true := by simp [Region.wanted, hg i o ho]
    unfold wpOp
    rw [ho]
    simp only [hwant, if_true]
    left
    refine Oper.wp_mono (fun a' w' h => ?_) (step listed a w i o hI ho hrd)
    exact ih _ a' w' (by simpa using hs) (by have := left_set hrd.mine; omega) h

/-- A region that draws, by an invariant. -/
theorem wp_region_inv {id : Nat} {a : Act} {w : World} (hm : P.follows .mixedOrders = true) (I : Array Bool → Act → World → Prop) (hac : ∀ (i : Nat) (o : Oper), ops[i]? = some o → ∀ e ∈ o.after, Region.binds .any e = true → e.on < i) (hg : ∀ (i : Nat) (o : Oper), ops[i]? = some o → o.guard = none)
    (start : I (Array.replicate ops.size false) a w.drew)
    (step : ∀ listed a w i o, I listed a w → ops[i]? = some o → Rdy .any listed i o → o.wp P a w (fun a' w' => I (listed.setIfInBounds i true) a' w') Q)
    (fin : ∀ listed a w, I listed a w → (∀ i, i < ops.size → listed.getD i false = true) → Q .normal a w) : (Code.region id ops true).wp P Q a w :=
  wp_region_any hm (wpAny_inv I hac hg step fin _ _ a _ (by simp) (by simp [left]) start)
end

end Go.Proofs.Ytgeoffpcmkofkaa
/- Points as cells. -/
namespace Go.Proofs.Ytgeoffpcmkofkaa
open Go.RowKit Fl
set_option maxRecDepth 100000

theorem Try.info23 : (Try.prog.info? 23).map (fun i => (i.zero, i.size, i.bytes)) = some (some (.agg #[.int .i64 0, .int .i64 0]), 2, 16) := by kernel_rfl

/-- Points as cells. -/
def flatP : Pts → List Value
  | [] => []
  | p :: l => .int .i64 p.1 :: .int .i64 p.2 :: flatP l
theorem flatP_append (a b : Pts) : flatP (a ++ b) = flatP a ++ flatP b := by
  induction a with
  | nil => rfl
  | cons p l ih => simp [flatP, ih]

/-- Its numbers are numbers of 64 bits. -/
def In64 (l : Pts) : Prop := ∀ p ∈ l, (-9223372036854775808 ≤ p.1 ∧ p.1 < 9223372036854775808) ∧ (-9223372036854775808 ≤ p.2 ∧ p.2 < 9223372036854775808)

theorem own_ne {W : World} {base e size n : Nat} {v : Value} {xs : List Value} (h : W.ownsRow base e size v n xs) {g : Nat} (hg : g < base) : some g ≠ v.ownBlock := by
  rcases h.2 with ⟨rfl, _⟩ | ⟨g', cap, cur, rfl, hb, _⟩
  · simp [Value.ownBlock]
  · simp [Value.ownBlock]; omega

theorem New.drew1 {w w1 : World} (h : New w w1) : New w w1.drew := ⟨h.os, h.tape, h.output, h.size, h.block⟩
end Go.Proofs.Ytgeoffpcmkofkaa
/- Three rows are made and laid into three new variables, in whatever order. -/
namespace Go.Proofs.Ytgeoffpcmkofkaa
open Go.RowKit
set_option maxRecDepth 100000

def upd (f : Fin 3 → Value) (j : Fin 3) (v : Value) : Fin 3 → Value := fun i => if i = j then v else f i

theorem getD_set {listed : Array Bool} {i : Nat} (h : listed.getD i true = false) (k : Nat) : (listed.setIfInBounds i true).getD k false = if k = i then true else listed.getD k false := by
  have hi : i < listed.size := by
    rcases Nat.lt_or_ge i listed.size with h1 | h1
    · exact h1
    · simp [Array.getD, Nat.not_lt.2 h1] at h
  by_cases hk : k = i
  · subst hk; simp [Array.getD, hi]
  · by_cases hs : k < listed.size
    · simp [Array.getD, hs, hk, Ne.symm hk]
    · simp [Array.getD, hs, hk]

/-- What is known of the rows r and of the variables p, when the operations that are listed have come up. -/
structure Trio (W w : World) (t : TypeId) (z : Array Value) (R : Fin 3 → Value → World → Prop) (listed : Array Bool) (p r : Fin 3 → Value) : Prop where
  new : New W w
  row : ∀ j : Fin 3, listed.getD (2 + 3 * j.val) false = true → (∃ x0 x1 x2 : Value, r j = .agg #[x0, x1, x2]) ∧ R j (r j) w
  ptr : ∀ j : Fin 3, listed.getD (9 + j.val) false = true → ∃ b, p j = .pointer (some ⟨b, 0, none⟩) ∧ W.heap.size ≤ b ∧
    (listed.getD (12 + j.val) false = false → w.heap[b]? = some (.cells z t (0, 0))) ∧
    (listed.getD (12 + j.val) false = true → ∃ x0 x1 x2 : Value, r j = .agg #[x0, x1, x2] ∧ w.heap[b]? = some (.cells #[x0, x1, x2] t (0, 0)))
  dis : ∀ i j : Fin 3, i ≠ j → listed.getD (9 + i.val) false = true → listed.getD (9 + j.val) false = true → p i ≠ p j
  ord : ∀ j : Fin 3, listed.getD (12 + j.val) false = true → listed.getD (2 + 3 * j.val) false = true ∧ listed.getD (9 + j.val) false = true

section
variable {W w w' : World} {t : TypeId} {z : Array Value} {R : Fin 3 → Value → World → Prop} {listed : Array Bool} {p r : Fin 3 → Value}

theorem Trio.start (hn : New W w) (n : Nat) : Trio W w t z R (Array.replicate n false) p r := by
  have h : ∀ k, (Array.replicate n false).getD k false = false := by
    intro k
    by_cases hk : k < n <;> simp [Array.getD, hk]
  refine ⟨hn, fun j hj => ?_, fun j hj => ?_, fun i j _ hi => ?_, fun j hj => ?_⟩
  · rw [h] at hj; cases hj
  · rw [h] at hj; cases hj
  · rw [h] at hi; cases hi
  · rw [h] at hj; cases hj

theorem ord_set (h : ∀ j : Fin 3, listed.getD (12 + j.val) false = true → listed.getD (2 + 3 * j.val) false = true ∧ listed.getD (9 + j.val) false = true) {i : Nat} (hi : listed.getD i true = false) (hne : ∀ k : Fin 3, 12 + k.val ≠ i) :
    ∀ j : Fin 3, (listed.setIfInBounds i true).getD (12 + j.val) false = true → (listed.setIfInBounds i true).getD (2 + 3 * j.val) false = true ∧ (listed.setIfInBounds i true).getD (9 + j.val) false = true := by
  intro j hj
  rw [getD_set hi, if_neg (hne j)] at hj
  obtain ⟨h1, h2⟩ := h j hj
  rw [getD_set hi, getD_set hi, h1, h2]
  constructor <;> split <;> rfl

/-- A load has come up. -/
theorem Trio.load (h : Trio W w t z R listed p r) {i : Nat} (hi : listed.getD i true = false) (h1 : ∀ j : Fin 3, 2 + 3 * j.val ≠ i) (h2 : i < 9) : Trio W w t z R (listed.setIfInBounds i true) p r := by
  refine ⟨h.new, fun j hj => ?_, fun j hj => ?_, fun a b hab ha hb => ?_, ord_set h.ord hi (by intro k; omega)⟩
  · rw [getD_set hi, if_neg (h1 j)] at hj; exact h.row j hj
  · rw [getD_set hi, if_neg (by omega)] at hj
    rw [getD_set hi, if_neg (by omega)]; exact h.ptr j hj
  · rw [getD_set hi, if_neg (by omega)] at ha hb; exact h.dis a b hab ha hb

/-- A row has been made. -/
theorem Trio.call (h : Trio W w t z R listed p r) (hRn : ∀ j v w w', R j v w → New w w' → R j v w') (j : Fin 3) (hi : listed.getD (2 + 3 * j.val) true = false) (hn : New w w') {x0 x1 x2 : Value} (hR : R j (.agg #[x0, x1, x2]) w') :
    Trio W w' t z R (listed.setIfInBounds (2 + 3 * j.val) true) p (upd r j (.agg #[x0, x1, x2])) := by
  have hf : listed.getD (2 + 3 * j.val) false = false := by
    by_cases hs : 2 + 3 * j.val < listed.size
    · simpa [Array.getD, hs] using hi
    · simp [Array.getD, hs]
  refine ⟨h.new.trans' hn, fun k hk => ?_, fun k hk => ?_, fun a b hab ha hb => ?_, ord_set h.ord hi (by intro k; omega)⟩
  · by_cases hkj : k = j
    · subst hkj
      simp only [upd, if_true]
      exact ⟨⟨_, _, _, rfl⟩, hR⟩
    · rw [getD_set hi, if_neg (by intro e; apply hkj; apply Fin.ext; omega)] at hk
      simp only [upd, if_neg hkj]
      exact ⟨(h.row k hk).1, hRn _ _ _ _ (h.row k hk).2 hn⟩
  · rw [getD_set hi, if_neg (by omega)] at hk
    rw [getD_set hi, if_neg (by omega)]
    obtain ⟨b, h1, h2, h3, h4⟩ := h.ptr k hk
    refine ⟨b, h1, h2, fun hs => ?_, fun hs => ?_⟩
    · have := h3 hs
      rw [hn.block _ (lt_of_block this) (by simp)]; exact this
    · obtain ⟨y0, y1, y2, h5, h6⟩ := h4 hs
      have hkj : k ≠ j := by
        rintro rfl
        rw [(h.ord k hs).1] at hf; cases hf
      refine ⟨y0, y1, y2, by simp only [upd, if_neg hkj]; exact h5, ?_⟩
      rw [hn.block _ (lt_of_block h6) (by simp)]; exact h6
  · rw [getD_set hi, if_neg (by omega)] at ha hb; exact h.dis a b hab ha hb

/-- A variable has been made. -/
theorem Trio.alloc (h : Trio W w t z R listed p r) (hRn : ∀ j v w w', R j v w → New w w' → R j v w') (j : Fin 3) (hi : listed.getD (9 + j.val) true = false) :
    Trio W (w.alloc (.cells z t)) t z R (listed.setIfInBounds (9 + j.val) true) (upd p j (.pointer (some ⟨w.heap.size, 0, none⟩))) r := by
  have hn : New w (w.alloc (.cells z t)) := New.alloc w _
  have hst : listed.getD (12 + j.val) false = false := by
    rcases Bool.eq_false_or_eq_true (listed.getD (12 + j.val) false) with hs | hs
    · have h1 := (h.ord j hs).2
      have h2 : listed.getD (9 + j.val) true = true := by
        by_cases hs : 9 + j.val < listed.size
        · simpa [Array.getD, hs] using h1
        · simp [Array.getD, hs]
      rw [h2] at hi; cases hi
    · exact hs
  have old : ∀ k : Fin 3, k ≠ j → (listed.setIfInBounds (9 + j.val) true).getD (9 + k.val) false = true → listed.getD (9 + k.val) false = true := by
    intro k hkj hk
    rwa [getD_set hi, if_neg (by intro e; apply hkj; apply Fin.ext; omega)] at hk
  have lt : ∀ k : Fin 3, listed.getD (9 + k.val) false = true → ∃ b, p k = .pointer (some ⟨b, 0, none⟩) ∧ b < w.heap.size := by
    intro k hk
    obtain ⟨b, h1, _, h3, h4⟩ := h.ptr k hk
    refine ⟨b, h1, ?_⟩
    rcases Bool.eq_false_or_eq_true (listed.getD (12 + k.val) false) with hs | hs
    · obtain ⟨_, _, _, _, h6⟩ := h4 hs; exact lt_of_block h6
    · exact lt_of_block (h3 hs)
  refine ⟨h.new.trans' hn, fun k hk => ?_, fun k hk => ?_, fun a b hab ha hb => ?_, ord_set h.ord hi (by intro k; omega)⟩
  · rw [getD_set hi, if_neg (by omega)] at hk
    exact ⟨(h.row k hk).1, hRn _ _ _ _ (h.row k hk).2 hn⟩
  · rw [getD_set hi, if_neg (by omega)]
    by_cases hkj : k = j
    · subst hkj
      refine ⟨w.heap.size, by simp [upd], h.new.size, fun _ => _root_.Go.heap_alloc_new w _, fun hs => ?_⟩
      rw [hst] at hs; cases hs
    · have hk' := old k hkj hk
      obtain ⟨b, h1, h2, h3, h4⟩ := h.ptr k hk'
      refine ⟨b, by simp only [upd, if_neg hkj]; exact h1, h2, fun hs => ?_, fun hs => ?_⟩
      · have := h3 hs
        rw [hn.block _ (lt_of_block this) (by simp)]; exact this
      · obtain ⟨y0, y1, y2, h5, h6⟩ := h4 hs
        exact ⟨y0, y1, y2, h5, by rw [hn.block _ (lt_of_block h6) (by simp)]; exact h6⟩
  · by_cases haj : a = j
    · subst haj
      have hb' := old b (Ne.symm hab) hb
      obtain ⟨c, h1, h2⟩ := lt b hb'
      simp only [upd, if_true, if_neg (Ne.symm hab)]
      rw [h1]; simp only [ne_eq, Value.pointer.injEq, Option.some.injEq, Addr.mk.injEq, and_true]; omega
    · have ha' := old a haj ha
      by_cases hbj : b = j
      · subst hbj
        obtain ⟨c, h1, h2⟩ := lt a ha'
        simp only [upd, if_true, if_neg hab]
        rw [h1]; simp only [ne_eq, Value.pointer.injEq, Option.some.injEq, Addr.mk.injEq, and_true]; omega
      · simp only [upd, if_neg haj, if_neg hbj]
        exact h.dis a b hab ha' (old b hbj hb)

/-- A row has been laid into its variable. -/
theorem Trio.store (h : Trio W w t z R listed p r) (hRs : ∀ j v w b x0 x1 x2, R j v w → w.heap[b]? = some (.cells z t (0, 0)) → R j v (((w.setCell ⟨b, 0, none⟩ x0).setCell ⟨b, 1, none⟩ x1).setCell ⟨b, 2, none⟩ x2)) (j : Fin 3) (hi : listed.getD (12 + j.val) true = false)
    {b : Nat} {x0 x1 x2 y0 y1 y2 : Value} (hz : z = #[y0, y1, y2]) (hp : p j = .pointer (some ⟨b, 0, none⟩)) (hr : r j = .agg #[x0, x1, x2]) (hb : w.heap[b]? = some (.cells z t (0, 0))) (hW : W.heap.size ≤ b) (hj : listed.getD (9 + j.val) false = true) (hcl : listed.getD (2 + 3 * j.val) false = true) :
    Trio W (((w.setCell ⟨b, 0, none⟩ x0).setCell ⟨b, 1, none⟩ x1).setCell ⟨b, 2, none⟩ x2) t z R (listed.setIfInBounds (12 + j.val) true) p r := by
  have hlt := lt_of_block hb
  have oth : ∀ c, c ≠ b → (((w.setCell ⟨b, 0, none⟩ x0).setCell ⟨b, 1, none⟩ x1).setCell ⟨b, 2, none⟩ x2).heap[c]? = w.heap[c]? := by
    intro c hc
    rw [heap_setCell_other _ ⟨b, 2, none⟩ c x2 hc, heap_setCell_other _ ⟨b, 1, none⟩ c x1 hc, heap_setCell_other _ ⟨b, 0, none⟩ c x0 hc]
  have own : (((w.setCell ⟨b, 0, none⟩ x0).setCell ⟨b, 1, none⟩ x1).setCell ⟨b, 2, none⟩ x2).heap[b]? = some (.cells #[x0, x1, x2] t (0, 0)) := by
    rw [hz] at hb
    have s1 : ∀ (u : World) (cs : Array Value) (o : Nat) (x : Value), u.heap[b]? = some (.cells cs t (0, 0)) → (u.setCell ⟨b, o, none⟩ x).heap[b]? = some (.cells (cs.setIfInBounds o x) t (0, 0)) := by
      intro u cs o x hu
      have hl := lt_of_block hu
      have h' : u.heap[b] = .cells cs t (0, 0) := by simpa [Array.getElem?_eq_getElem hl] using hu
      show (u.heap.modify b _)[b]? = _
      rw [Array.getElem?_eq_getElem (by simpa using hl), Array.getElem_modify_self, h']
      rfl
    have := s1 _ _ 2 x2 (s1 _ _ 1 x1 (s1 _ _ 0 x0 hb))
    simpa using this
  have hB := ((((New.below' h.new).setCell (p := ⟨b, 0, none⟩) hW x0).setCell (p := ⟨b, 1, none⟩) hW x1).setCell (p := ⟨b, 2, none⟩) hW x2)
  refine ⟨Below.new' hB, fun k hk => ?_, fun k hk => ?_, fun a c hac ha hc => ?_, fun k hk => ?_⟩
  · rw [getD_set hi, if_neg (by omega)] at hk
    exact ⟨(h.row k hk).1, hRs _ _ _ _ _ _ _ (h.row k hk).2 hb⟩
  · rw [getD_set hi, if_neg (by omega)] at hk
    by_cases hkj : k = j
    · subst hkj
      refine ⟨b, hp, hW, fun hs => ?_, fun _ => ⟨x0, x1, x2, hr, own⟩⟩
      rw [getD_set hi, if_pos rfl] at hs; cases hs
    · rw [getD_set hi, if_neg (by intro e; apply hkj; apply Fin.ext; omega)]
      obtain ⟨c, h1, h2, h3, h4⟩ := h.ptr k hk
      have hcb : c ≠ b := by
        rintro rfl
        exact h.dis k j hkj hk hj (h1.trans hp.symm)
      refine ⟨c, h1, h2, fun hs => ?_, fun hs => ?_⟩
      · rw [oth c hcb]; exact h3 hs
      · obtain ⟨y0, y1, y2, h5, h6⟩ := h4 hs
        exact ⟨y0, y1, y2, h5, by rw [oth c hcb]; exact h6⟩
  · rw [getD_set hi, if_neg (by omega)] at ha hc; exact h.dis a c hac ha hc
  · rw [getD_set hi (2 + 3 * k.val), getD_set hi (9 + k.val), if_neg (by omega), if_neg (by omega)]
    by_cases hkj : k = j
    · subst hkj; exact ⟨hcl, hj⟩
    · rw [getD_set hi, if_neg (by intro e; apply hkj; apply Fin.ext; omega)] at hk
      exact h.ord k hk
end

/-- The points that have been loaded. -/
structure Lds (listed : Array Bool) (pa pb pc pd s0 s1 s3 s4 s6 s7 : Value) : Prop where
  l0 : listed.getD 0 false = true → s0 = pa
  l1 : listed.getD 1 false = true → s1 = pd
  l3 : listed.getD 3 false = true → s3 = pb
  l4 : listed.getD 4 false = true → s4 = pd
  l6 : listed.getD 6 false = true → s6 = pc
  l7 : listed.getD 7 false = true → s7 = pd

section
variable {listed : Array Bool} {pa pb pc pd s0 s1 s3 s4 s6 s7 : Value}
theorem Lds.start (n : Nat) : Lds (Array.replicate n false) pa pb pc pd s0 s1 s3 s4 s6 s7 := by
  have h : ∀ k, (Array.replicate n false).getD k false = false := by
    intro k
    by_cases hk : k < n <;> simp [Array.getD, hk]
  refine ⟨?_, ?_, ?_, ?_, ?_, ?_⟩ <;> (intro hh; rw [h] at hh; cases hh)

theorem Lds.keep (h : Lds listed pa pb pc pd s0 s1 s3 s4 s6 s7) {i : Nat} (hi : listed.getD i true = false) (hne : i ≠ 0 ∧ i ≠ 1 ∧ i ≠ 3 ∧ i ≠ 4 ∧ i ≠ 6 ∧ i ≠ 7) : Lds (listed.setIfInBounds i true) pa pb pc pd s0 s1 s3 s4 s6 s7 := by
  refine ⟨?_, ?_, ?_, ?_, ?_, ?_⟩
  all_goals (intro hh; rw [getD_set hi, if_neg (by omega)] at hh)
  · exact h.l0 hh
  · exact h.l1 hh
  · exact h.l3 hh
  · exact h.l4 hh
  · exact h.l6 hh
  · exact h.l7 hh

theorem Lds.set0 (h : Lds listed pa pb pc pd s0 s1 s3 s4 s6 s7) (hi : listed.getD 0 true = false) : Lds (listed.setIfInBounds 0 true) pa pb pc pd pa s1 s3 s4 s6 s7 := by
  refine ⟨fun _ => rfl, ?_, ?_, ?_, ?_, ?_⟩ <;> (intro hh; rw [getD_set hi, if_neg (by omega)] at hh)
  all_goals first | exact h.l0 hh | exact h.l1 hh | exact h.l3 hh | exact h.l4 hh | exact h.l6 hh | exact h.l7 hh
theorem Lds.set1 (h : Lds listed pa pb pc pd s0 s1 s3 s4 s6 s7) (hi : listed.getD 1 true = false) : Lds (listed.setIfInBounds 1 true) pa pb pc pd s0 pd s3 s4 s6 s7 := by
  refine ⟨?_, fun _ => rfl, ?_, ?_, ?_, ?_⟩ <;> (intro hh; rw [getD_set hi, if_neg (by omega)] at hh)
  all_goals first | exact h.l0 hh | exact h.l1 hh | exact h.l3 hh | exact h.l4 hh | exact h.l6 hh | exact h.l7 hh
theorem Lds.set3 (h : Lds listed pa pb pc pd s0 s1 s3 s4 s6 s7) (hi : listed.getD 3 true = false) : Lds (listed.setIfInBounds 3 true) pa pb pc pd s0 s1 pb s4 s6 s7 := by
  refine ⟨?_, ?_, fun _ => rfl, ?_, ?_, ?_⟩ <;> (intro hh; rw [getD_set hi, if_neg (by omega)] at hh)
  all_goals first | exact h.l0 hh | exact h.l1 hh | exact h.l3 hh | exact h.l4 hh | exact h.l6 hh | exact h.l7 hh
theorem Lds.set4 (h : Lds listed pa pb pc pd s0 s1 s3 s4 s6 s7) (hi : listed.getD 4 true = false) : Lds (listed.setIfInBounds 4 true) pa pb pc pd s0 s1 s3 pd s6 s7 := by
  refine ⟨?_, ?_, ?_, fun _ => rfl, ?_, ?_⟩ <;> (intro hh; rw [getD_set hi, if_neg (by omega)] at hh)
  all_goals first | exact h.l0 hh | exact h.l1 hh | exact h.l3 hh | exact h.l4 hh | exact h.l6 hh | exact h.l7 hh
theorem Lds.set6 (h : Lds listed pa pb pc pd s0 s1 s3 s4 s6 s7) (hi : listed.getD 6 true = false) : Lds (listed.setIfInBounds 6 true) pa pb pc pd s0 s1 s3 s4 pc s7 := by
  refine ⟨?_, ?_, ?_, ?_, fun _ => rfl, ?_⟩ <;> (intro hh; rw [getD_set hi, if_neg (by omega)] at hh)
  all_goals first | exact h.l0 hh | exact h.l1 hh | exact h.l3 hh | exact h.l4 hh | exact h.l6 hh | exact h.l7 hh
theorem Lds.set7 (h : Lds listed pa pb pc pd s0 s1 s3 s4 s6 s7) (hi : listed.getD 7 true = false) : Lds (listed.setIfInBounds 7 true) pa pb pc pd s0 s1 s3 s4 s6 pd := by
  refine ⟨?_, ?_, ?_, ?_, ?_, fun _ => rfl⟩ <;> (intro hh; rw [getD_set hi, if_neg (by omega)] at hh)
  all_goals first | exact h.l0 hh | exact h.l1 hh | exact h.l3 hh | exact h.l4 hh | exact h.l6 hh | exact h.l7 hh
end

theorem wpK {P : Program} {o : Oper} {a : Act} {w : World} {Q : Exit → Act → World → Prop} {I' : Act → World → Prop} (h : ∀ K' : Act → World → Prop, Hid (∀ a w, I' a w → K' a w) → o.wp P a w K' Q) : o.wp P a w I' Q := h I' (fun _ _ h => h)

end Go.Proofs.Ytgeoffpcmkofkaa
/- The walk of 'roughCircle'. -/
namespace Go.Proofs.Ytgeoffpcmkofkaa
open Go.RowKit Fl
set_option maxRecDepth 100000

theorem eight_keep {W w' : World} {g : Nat} {p q r s t u x y : Value} (hn : New W w') (hs : g + 1 + 1 + 1 < W.heap.size ∧ W.cell? ⟨g, 0, none⟩ = some p ∧ W.cell? ⟨g, 1, none⟩ = some q ∧ W.cell? ⟨g + 1, 0, none⟩ = some r ∧ W.cell? ⟨g + 1, 1, none⟩ = some s ∧ W.cell? ⟨g + 1 + 1, 0, none⟩ = some t ∧ W.cell? ⟨g + 1 + 1, 1, none⟩ = some u ∧ W.cell? ⟨g + 1 + 1 + 1, 0, none⟩ = some x ∧ W.cell? ⟨g + 1 + 1 + 1, 1, none⟩ = some y) :
    g + 1 + 1 + 1 < w'.heap.size ∧ w'.cell? ⟨g, 0, none⟩ = some p ∧ w'.cell? ⟨g, 1, none⟩ = some q ∧ w'.cell? ⟨g + 1, 0, none⟩ = some r ∧ w'.cell? ⟨g + 1, 1, none⟩ = some s ∧ w'.cell? ⟨g + 1 + 1, 0, none⟩ = some t ∧ w'.cell? ⟨g + 1 + 1, 1, none⟩ = some u ∧ w'.cell? ⟨g + 1 + 1 + 1, 0, none⟩ = some x ∧ w'.cell? ⟨g + 1 + 1 + 1, 1, none⟩ = some y := by
  obtain ⟨h0, h1, h2, h3, h4, h5, h6, h7, h8⟩ := hs
  have := hn.size
  refine ⟨by omega, ?_, ?_, ?_, ?_, ?_, ?_, ?_, ?_⟩
  all_goals (rw [hn.rule _ _ (by omega)]; assumption)

theorem getD_false {listed : Array Bool} {i : Nat} (h : listed.getD i true = false) : listed.getD i false = false := by
  by_cases hs : i < listed.size
  · simpa [Array.getD, hs] using h
  · simp [Array.getD, hs]

/-- All edges lead back. -/
def edgesB (md : Region.Mode) (ops : Array Oper) : Bool := (List.range ops.size).all fun i => ((ops[i]?).map fun o => o.after.all fun e => !Region.binds md e || decide (e.on < i)).getD true
def guardsB (ops : Array Oper) : Bool := ops.all fun o => o.guard.isNone

theorem edges_ok {md : Region.Mode} {ops : Array Oper} (h : edgesB md ops = true) : ∀ (i : Nat) (o : Oper), ops[i]? = some o → ∀ e ∈ o.after, Region.binds md e = true → e.on < i := by
  intro i o ho e he hb
  have hi : i < ops.size := (Array.getElem?_eq_some_iff.1 ho).1
  have h1 := List.all_eq_true.1 h i (by simpa using hi)
  rw [ho] at h1
  simp only [Option.map_some, Option.getD_some] at h1
  rw [Array.all_eq_true_iff_forall_mem] at h1
  have := h1 e he
  rw [hb] at this
  simpa using this

theorem guards_ok {ops : Array Oper} (h : guardsB ops = true) : ∀ (i : Nat) (o : Oper), ops[i]? = some o → o.guard = none := by
  intro i o ho
  unfold guardsB at h
  rw [Array.all_eq_true_iff_forall_mem] at h
  have := h o (Array.mem_of_getElem? ho)
  simpa using this

/-- The rows, rounded. -/
def RR (ax ay bx by' cx cy dx dy : Int) (j : Fin 3) (v : Value) (_w : World) : Prop :=
  ∃ x y s : Nat × Int, v = .agg #[.float .f64 x.1, .float .f64 y.1, .float .f64 s.1] ∧ RRow ((if j = 0 then ax else if j = 1 then bx else cx) - dx) ((if j = 0 then ay else if j = 1 then by' else cy) - dy) x y s

section
variable {ax ay bx by' cx cy dx dy : Int}
theorem rr_new : ∀ (j : Fin 3) (v : Value) (w w' : World), RR ax ay bx by' cx cy dx dy j v w → New w w' → RR ax ay bx by' cx cy dx dy j v w' := fun _ _ _ _ h _ => h
theorem rr_set {z : Array Value} {t : TypeId} : ∀ (j : Fin 3) (v : Value) (w : World) (b : Nat) (x0 x1 x2 : Value), RR ax ay bx by' cx cy dx dy j v w → w.heap[b]? = some (.cells z t (0, 0)) → RR ax ay bx by' cx cy dx dy j v (((w.setCell ⟨b, 0, none⟩ x0).setCell ⟨b, 1, none⟩ x1).setCell ⟨b, 2, none⟩ x2) := fun _ _ _ _ _ _ _ h _ => h
theorem rr_mk0 {x y s : Nat × Int} {w : World} (h : RRow (ax - dx) (ay - dy) x y s) : RR ax ay bx by' cx cy dx dy 0 (.agg #[.float .f64 x.1, .float .f64 y.1, .float .f64 s.1]) w := ⟨x, y, s, rfl, h⟩
theorem rr_mk1 {x y s : Nat × Int} {w : World} (h : RRow (bx - dx) (by' - dy) x y s) : RR ax ay bx by' cx cy dx dy 1 (.agg #[.float .f64 x.1, .float .f64 y.1, .float .f64 s.1]) w := ⟨x, y, s, rfl, h⟩
theorem rr_mk2 {x y s : Nat × Int} {w : World} (h : RRow (cx - dx) (cy - dy) x y s) : RR ax ay bx by' cx cy dx dy 2 (.agg #[.float .f64 x.1, .float .f64 y.1, .float .f64 s.1]) w := ⟨x, y, s, rfl, h⟩
theorem rr_form {j : Fin 3} {v : Value} {w : World} (h : RR ax ay bx by' cx cy dx dy j v w) : ∃ x y s : Nat, v = .agg #[.float .f64 x, .float .f64 y, .float .f64 s] := by
  obtain ⟨x, y, s, e, _⟩ := h
  exact ⟨_, _, _, e⟩
end

/-- The number whose sign is the circle side. -/
def cdet (ax ay bx by' cx cy dx dy : Int) : Int :=
  ((ax - dx) * (ax - dx) + (ay - dy) * (ay - dy)) * ((bx - dx) * (cy - dy) - (by' - dy) * (cx - dx)) +
  ((bx - dx) * (bx - dx) + (by' - dy) * (by' - dy)) * ((cx - dx) * (ay - dy) - (cy - dy) * (ax - dx)) +
  ((cx - dx) * (cx - dx) + (cy - dy) * (cy - dy)) * ((ax - dx) * (by' - dy) - (ay - dy) * (bx - dx))

theorem Fl.G.mono {s z c c' : Int} (h : G s z c) (hc : c ≤ c') : G s z c' := ⟨Int.le_trans h.1 (Int.mul_le_mul_of_nonneg_right (by omega) h.2), h.2⟩

theorem circle_words {T1 T2 T3 : Int} {v1 z1 v2 z2 v3 z3 : Nat × Int} (h1 : RTerm T1 v1 z1) (h2 : RTerm T2 v2 z2) (h3 : RTerm T3 v3 z3) :
    ∃ (a d b t s : Nat) (zd S : Int), Ieee.double.add v1.1 v2.1 = some a ∧ Ieee.double.add a v3.1 = some d ∧ Ieee.double.add z1.1 z2.1 = some b ∧ Ieee.double.add b z3.1 = some t ∧ Ieee.double.mul 4386506037058863104 t = some s ∧
      F d zd 0 ∧ F s S 49 ∧ (S < zd * 2 ^ 49 → 0 < T1 + T2 + T3) ∧ (zd * 2 ^ 49 < -S → T1 + T2 + T3 < 0) := by
  have m22 : (2 : Int) ^ 222 ≤ 2 ^ 223 := p2_le (by omega)
  have b1 := add_le_p2 h1.sv h2.sv
  obtain ⟨a, za, e1, q1, f1⟩ := h1.wv.add h2.wv (by omega) (small_Big b1 (by omega))
  have c1 := rnd_p2 q1 b1
  have b2 := add_le_p2 c1 (Int.le_trans h3.sv m22)
  obtain ⟨d, zd, e2, q2, f2⟩ := f1.add h3.wv (by omega) (small_Big b2 (by omega))
  have b3 := add_le_p2 h1.sz h2.sz
  obtain ⟨b, zb, e3, q3, f3⟩ := h1.wz.add h2.wz (by omega) (small_Big b3 (by omega))
  have c3 := rnd_p2 q3 b3
  have b4 := add_le_p2 c3 (Int.le_trans h3.sz m22)
  obtain ⟨t, zt, e4, q4, f4⟩ := f3.add h3.wz (by omega) (small_Big b4 (by omega))
  have c4 := rnd_p2 q4 b4
  obtain ⟨s, zs, e5, q5, f5⟩ := slack49.mul f4 (by omega) (by rw [Int.one_mul]; exact small_Big c4 (by omega))
  rw [Int.one_mul] at q5
  have hzs := q5.exact q4.rep
  subst hzs
  obtain ⟨s1, E1, G1⟩ := h1.err
  obtain ⟨s2, E2, G2⟩ := h2.err
  obtain ⟨s3, E3, G3⟩ := h3.err
  have E4 := ((E1.add E2).roundS q1 (by omega) (by omega)).mono (show _ ≤ 1305 by omega)
  have E5 := (E4.add (E3.mono (show (1175 : Int) ≤ 1305 by omega))).roundS q2 (by omega) (by omega)
  have G4 := ((G1.add G2).round q3 (by omega) (by omega)).mono (show _ ≤ 389 by omega)
  have G5 := (G4.add (G3.mono (show (259 : Int) ≤ 389 by omega))).round q4 (by omega) (by omega)
  have e49 : (2 : Int) ^ 49 = 562949953421312 := by decide
  have hs := sign_sure' (m := 2 ^ 49) E5 G5 (by omega) (by omega) e49
  exact ⟨a, d, b, t, s, zd, zs, e1, e2, e3, e4, e5, f2, f5, hs.1, hs.2⟩

set_option maxHeartbeats 6400000 in
theorem roughCircle_any (ax ay bx by' cx cy dx dy : Int) (w : World) (h1 : Cd ax) (h2 : Cd ay) (h3 : Cd bx) (h4 : Cd by') (h5 : Cd cx) (h6 : Cd cy) (h7 : Cd dx) (h8 : Cd dy) :
    Calls Try.prog 62 #[.agg #[.int .i64 ax, .int .i64 ay], .agg #[.int .i64 bx, .int .i64 by'], .agg #[.int .i64 cx, .int .i64 cy], .agg #[.int .i64 dx, .int .i64 dy]] w fun e w' =>
      ∃ (sg : Int) (b : Bool), e = .returned (.tuple #[.int .i64 sg, .bool b]) ∧ Hid (New w w' ∧ (b = true → sg = sgn (cdet ax ay bx by' cx cy dx dy))) := by
  obtain ⟨W, hW⟩ : ∃ W, W = (((w.alloc (.cells #[.int .i64 ax, .int .i64 ay] 23)).alloc (.cells #[.int .i64 bx, .int .i64 by'] 23)).alloc (.cells #[.int .i64 cx, .int .i64 cy] 23)).alloc (.cells #[.int .i64 dx, .int .i64 dy] 23) := ⟨_, rfl⟩
  have HW : Hid (New w W) := by rw [hW]; exact (((New.alloc _ _).alloc' _).alloc' _).alloc' _
  have HS : Hid (w.heap.size + 1 + 1 + 1 < W.heap.size ∧ W.cell? ⟨w.heap.size, 0, none⟩ = some (.int .i64 ax) ∧ W.cell? ⟨w.heap.size, 1, none⟩ = some (.int .i64 ay) ∧ W.cell? ⟨w.heap.size + 1, 0, none⟩ = some (.int .i64 bx) ∧ W.cell? ⟨w.heap.size + 1, 1, none⟩ = some (.int .i64 by') ∧ W.cell? ⟨w.heap.size + 1 + 1, 0, none⟩ = some (.int .i64 cx) ∧ W.cell? ⟨w.heap.size + 1 + 1, 1, none⟩ = some (.int .i64 cy) ∧ W.cell? ⟨w.heap.size + 1 + 1 + 1, 0, none⟩ = some (.int .i64 dx) ∧ W.cell? ⟨w.heap.size + 1 + 1 + 1, 1, none⟩ = some (.int .i64 dy)) := by
    rw [hW]
    refine ⟨by simp, ?_, ?_, ?_, ?_, ?_, ?_, ?_, ?_⟩ <;> go_simp
  go_enter Try.func62, Try.ntmps62
  go_wp2_with fail
  rw [← hW]
  clear hW
  refine wp_region_inv (by kernel_rfl) (fun listed a' w' => ∃ (p r : Fin 3 → Value) (s0 s1 s3 s4 s6 s7 : Value), a' = { tmps := #[.agg #[.int .i64 ax, .int .i64 ay], .agg #[.int .i64 bx, .int .i64 by'], .agg #[.int .i64 cx, .int .i64 cy], .agg #[.int .i64 dx, .int .i64 dy], .pointer (some ⟨w.heap.size, 0, none⟩), .pointer (some ⟨w.heap.size + 1, 0, none⟩), .pointer (some ⟨w.heap.size + 1 + 1, 0, none⟩), .pointer (some ⟨w.heap.size + 1 + 1 + 1, 0, none⟩), .int .i64 0, .bool false, p 0, p 1, p 2, undef, undef, undef, undef, undef, undef, s0, s1, r 0, s3, s4, r 1, s6, s7, r 2, undef, undef, undef, undef, undef, undef, undef, undef, undef, undef, undef, undef, undef, undef, undef, undef, undef, undef, undef, undef, undef, undef, undef, undef, undef, undef, undef, undef, undef, undef, undef, undef, undef, undef, undef], defers := [] } ∧ Hid (Trio W w' 93 #[.float .f64 0, .float .f64 0, .float .f64 0] (RR ax ay bx by' cx cy dx dy) listed p r ∧ Lds listed (.agg #[.int .i64 ax, .int .i64 ay]) (.agg #[.int .i64 bx, .int .i64 by']) (.agg #[.int .i64 cx, .int .i64 cy]) (.agg #[.int .i64 dx, .int .i64 dy]) s0 s1 s3 s4 s6 s7)) ?hac ?hg ?start ?step ?fin
  case hac => exact edges_ok (by kernel_rfl)
  case hg => exact guards_ok (by kernel_rfl)
  case start => exact ⟨fun _ => undef, fun _ => undef, undef, undef, undef, undef, undef, undef, rfl, Trio.start ((New.refl W).drewN 1) _, Lds.start _⟩
  case step =>
    rintro listed a' wr i o ⟨p, r, s0, s1, s3, s4, s6, s7, rfl, H⟩ ho hr
    have hm := hr.mine
    have hah := hr.ahead
    have q0 := eight_keep H.out.1.new HS.out
    obtain ⟨e0, e1, e2, e3, e4, e5, e6, e7, e8⟩ := q0
    clear hr e0
    match i, ho with
    | 0, ho =>
      obtain rfl := Option.some.inj (show some _ = some o from ho)
      refine wpK fun K' hK => ?_
      clear hah ho
      have HM : Hid (listed.getD 0 true = false) := hm
      clear hm
      go_simp
      exact hK.out _ _ ⟨p, r, (.agg #[.int .i64 ax, .int .i64 ay]), s1, s3, s4, s6, s7, rfl, H.out.1.load HM.out (by intro j; omega) (by omega), H.out.2.set0 HM.out⟩
    | 1, ho =>
      obtain rfl := Option.some.inj (show some _ = some o from ho)
      refine wpK fun K' hK => ?_
      clear hah ho
      have HM : Hid (listed.getD 1 true = false) := hm
      clear hm
      go_simp
      exact hK.out _ _ ⟨p, r, s0, (.agg #[.int .i64 dx, .int .i64 dy]), s3, s4, s6, s7, rfl, H.out.1.load HM.out (by intro j; omega) (by omega), H.out.2.set1 HM.out⟩
    | 2, ho =>
      obtain rfl := Option.some.inj (show some _ = some o from ho)
      have d0 := H.out.2.l0 (hah ⟨0, .data⟩ (by simp) rfl)
      have d1 := H.out.2.l1 (hah ⟨1, .data⟩ (by simp) rfl)
      subst d0 d1
      refine wpK fun K' hK => ?_
      clear hah ho
      have HM : Hid (listed.getD 2 true = false) := hm
      clear hm
      go_simp
      refine (newRoughRow_any ax ay dx dy _ h1 h2 h7 h8).mono ?_
      rintro e w2 ⟨x, y, s, rfl, HC⟩
      dsimp only
      exact hK.out _ _ ⟨p, upd r 0 _, _, _, _, _, _, _, rfl, H.out.1.call rr_new 0 HM.out HC.out.1 (rr_mk0 HC.out.2), H.out.2.keep HM.out (by decide)⟩
    | 3, ho =>
      obtain rfl := Option.some.inj (show some _ = some o from ho)
      refine wpK fun K' hK => ?_
      clear hah ho
      have HM : Hid (listed.getD 3 true = false) := hm
      clear hm
      go_simp
      exact hK.out _ _ ⟨p, r, s0, s1, (.agg #[.int .i64 bx, .int .i64 by']), s4, s6, s7, rfl, H.out.1.load HM.out (by intro j; omega) (by omega), H.out.2.set3 HM.out⟩
    | 4, ho =>
      obtain rfl := Option.some.inj (show some _ = some o from ho)
      refine wpK fun K' hK => ?_
      clear hah ho
      have HM : Hid (listed.getD 4 true = false) := hm
      clear hm
      go_simp
      exact hK.out _ _ ⟨p, r, s0, s1, s3, (.agg #[.int .i64 dx, .int .i64 dy]), s6, s7, rfl, H.out.1.load HM.out (by intro j; omega) (by omega), H.out.2.set4 HM.out⟩
    | 5, ho =>
      obtain rfl := Option.some.inj (show some _ = some o from ho)
      have d0 := H.out.2.l3 (hah ⟨3, .data⟩ (by simp) rfl)
      have d1 := H.out.2.l4 (hah ⟨4, .data⟩ (by simp) rfl)
      subst d0 d1
      refine wpK fun K' hK => ?_
      clear hah ho
      have HM : Hid (listed.getD 5 true = false) := hm
      clear hm
      go_simp
      refine (newRoughRow_any bx by' dx dy _ h3 h4 h7 h8).mono ?_
      rintro e w2 ⟨x, y, s, rfl, HC⟩
      dsimp only
      exact hK.out _ _ ⟨p, upd r 1 _, _, _, _, _, _, _, rfl, H.out.1.call rr_new 1 HM.out HC.out.1 (rr_mk1 HC.out.2), H.out.2.keep HM.out (by decide)⟩
    | 6, ho =>
      obtain rfl := Option.some.inj (show some _ = some o from ho)
      refine wpK fun K' hK => ?_
      clear hah ho
      have HM : Hid (listed.getD 6 true = false) := hm
      clear hm
      go_simp
      exact hK.out _ _ ⟨p, r, s0, s1, s3, s4, (.agg #[.int .i64 cx, .int .i64 cy]), s7, rfl, H.out.1.load HM.out (by intro j; omega) (by omega), H.out.2.set6 HM.out⟩
    | 7, ho =>
      obtain rfl := Option.some.inj (show some _ = some o from ho)
      refine wpK fun K' hK => ?_
      clear hah ho
      have HM : Hid (listed.getD 7 true = false) := hm
      clear hm
      go_simp
      exact hK.out _ _ ⟨p, r, s0, s1, s3, s4, s6, (.agg #[.int .i64 dx, .int .i64 dy]), rfl, H.out.1.load HM.out (by intro j; omega) (by omega), H.out.2.set7 HM.out⟩
    | 8, ho =>
      obtain rfl := Option.some.inj (show some _ = some o from ho)
      have d0 := H.out.2.l6 (hah ⟨6, .data⟩ (by simp) rfl)
      have d1 := H.out.2.l7 (hah ⟨7, .data⟩ (by simp) rfl)
      subst d0 d1
      refine wpK fun K' hK => ?_
      clear hah ho
      have HM : Hid (listed.getD 8 true = false) := hm
      clear hm
      go_simp
      refine (newRoughRow_any cx cy dx dy _ h5 h6 h7 h8).mono ?_
      rintro e w2 ⟨x, y, s, rfl, HC⟩
      dsimp only
      exact hK.out _ _ ⟨p, upd r 2 _, _, _, _, _, _, _, rfl, H.out.1.call rr_new 2 HM.out HC.out.1 (rr_mk2 HC.out.2), H.out.2.keep HM.out (by decide)⟩
    | 9, ho =>
      obtain rfl := Option.some.inj (show some _ = some o from ho)
      refine wpK fun K' hK => ?_
      clear hah ho
      have HM : Hid (listed.getD 9 true = false) := hm
      clear hm
      go_simp
      exact hK.out _ _ ⟨upd p 0 _, r, s0, s1, s3, s4, s6, s7, rfl, H.out.1.alloc rr_new 0 HM.out, H.out.2.keep HM.out (by decide)⟩
    | 10, ho =>
      obtain rfl := Option.some.inj (show some _ = some o from ho)
      refine wpK fun K' hK => ?_
      clear hah ho
      have HM : Hid (listed.getD 10 true = false) := hm
      clear hm
      go_simp
      exact hK.out _ _ ⟨upd p 1 _, r, s0, s1, s3, s4, s6, s7, rfl, H.out.1.alloc rr_new 1 HM.out, H.out.2.keep HM.out (by decide)⟩
    | 11, ho =>
      obtain rfl := Option.some.inj (show some _ = some o from ho)
      refine wpK fun K' hK => ?_
      clear hah ho
      have HM : Hid (listed.getD 11 true = false) := hm
      clear hm
      go_simp
      exact hK.out _ _ ⟨upd p 2 _, r, s0, s1, s3, s4, s6, s7, rfl, H.out.1.alloc rr_new 2 HM.out, H.out.2.keep HM.out (by decide)⟩
    | 12, ho =>
      obtain rfl := Option.some.inj (show some _ = some o from ho)
      have da := hah ⟨9, .data⟩ (by simp) rfl
      have dc := hah ⟨2, .data⟩ (by simp) rfl
      obtain ⟨b, hp, hW, hz, _⟩ := H.out.1.ptr 0 da
      obtain ⟨⟨x0, x1, x2, hx⟩, hR⟩ := H.out.1.row 0 dc
      have hf : listed.getD 12 false = false := getD_false hm
      have hzz := hz hf
      have HM : Hid (Trio W (((wr.setCell ⟨b, 0, none⟩ x0).setCell ⟨b, 1, none⟩ x1).setCell ⟨b, 2, none⟩ x2) 93 #[.float .f64 0, .float .f64 0, .float .f64 0] (RR ax ay bx by' cx cy dx dy) (listed.setIfInBounds 12 true) p r ∧ Lds (listed.setIfInBounds 12 true) (.agg #[.int .i64 ax, .int .i64 ay]) (.agg #[.int .i64 bx, .int .i64 by']) (.agg #[.int .i64 cx, .int .i64 cy]) (.agg #[.int .i64 dx, .int .i64 dy]) s0 s1 s3 s4 s6 s7) := ⟨H.out.1.store rr_set 0 hm rfl hp hx hzz hW da dc, H.out.2.keep hm (by decide)⟩
      have HP : Hid (p 0 = .pointer (some ⟨b, 0, none⟩) ∧ r 0 = .agg #[x0, x1, x2]) := ⟨hp, hx⟩
      have c0 : wr.cell? ⟨b, 0, none⟩ = some (.float .f64 0) := by rw [cell_of_row wr b 0 _ _ (0, 0) hzz]; rfl
      have c1 : wr.cell? ⟨b, 1, none⟩ = some (.float .f64 0) := by rw [cell_of_row wr b 1 _ _ (0, 0) hzz]; rfl
      have c2 : wr.cell? ⟨b, 2, none⟩ = some (.float .f64 0) := by rw [cell_of_row wr b 2 _ _ (0, 0) hzz]; rfl
      have f0 := frozen_of_row wr b 0 _ _ hzz
      have f1 := frozen_of_row wr b 1 _ _ hzz
      have f2 := frozen_of_row wr b 2 _ _ hzz
      refine wpK fun K' hK => ?_
      obtain ⟨y0, y1, y2, ey⟩ := rr_form hR
      rw [hx] at ey
      simp only [Value.agg.injEq, Array.mk.injEq, List.cons.injEq, and_true] at ey
      obtain ⟨rfl, rfl, rfl⟩ := ey
      have hst := store_float
      clear hah ho hm da dc hz hf hzz hR hW e1 e2 e3 e4 e5 e6 e7 e8
      go_simp
      refine cast (congrArg (fun a => K' a _) ?_) (hK.out _ _ ⟨p, r, s0, s1, s3, s4, s6, s7, rfl, HM.out.1, HM.out.2⟩)
      rw [hp, hx]
    | 13, ho =>
      obtain rfl := Option.some.inj (show some _ = some o from ho)
      have da := hah ⟨10, .data⟩ (by simp) rfl
      have dc := hah ⟨5, .data⟩ (by simp) rfl
      obtain ⟨b, hp, hW, hz, _⟩ := H.out.1.ptr 1 da
      obtain ⟨⟨x0, x1, x2, hx⟩, hR⟩ := H.out.1.row 1 dc
      have hf : listed.getD 13 false = false := getD_false hm
      have hzz := hz hf
      have HM : Hid (Trio W (((wr.setCell ⟨b, 0, none⟩ x0).setCell ⟨b, 1, none⟩ x1).setCell ⟨b, 2, none⟩ x2) 93 #[.float .f64 0, .float .f64 0, .float .f64 0] (RR ax ay bx by' cx cy dx dy) (listed.setIfInBounds 13 true) p r ∧ Lds (listed.setIfInBounds 13 true) (.agg #[.int .i64 ax, .int .i64 ay]) (.agg #[.int .i64 bx, .int .i64 by']) (.agg #[.int .i64 cx, .int .i64 cy]) (.agg #[.int .i64 dx, .int .i64 dy]) s0 s1 s3 s4 s6 s7) := ⟨H.out.1.store rr_set 1 hm rfl hp hx hzz hW da dc, H.out.2.keep hm (by decide)⟩
      have HP : Hid (p 1 = .pointer (some ⟨b, 0, none⟩) ∧ r 1 = .agg #[x0, x1, x2]) := ⟨hp, hx⟩
      have c0 : wr.cell? ⟨b, 0, none⟩ = some (.float .f64 0) := by rw [cell_of_row wr b 0 _ _ (0, 0) hzz]; rfl
      have c1 : wr.cell? ⟨b, 1, none⟩ = some (.float .f64 0) := by rw [cell_of_row wr b 1 _ _ (0, 0) hzz]; rfl
      have c2 : wr.cell? ⟨b, 2, none⟩ = some (.float .f64 0) := by rw [cell_of_row wr b 2 _ _ (0, 0) hzz]; rfl
      have f0 := frozen_of_row wr b 0 _ _ hzz
      have f1 := frozen_of_row wr b 1 _ _ hzz
      have f2 := frozen_of_row wr b 2 _ _ hzz
      refine wpK fun K' hK => ?_
      obtain ⟨y0, y1, y2, ey⟩ := rr_form hR
      rw [hx] at ey
      simp only [Value.agg.injEq, Array.mk.injEq, List.cons.injEq, and_true] at ey
      obtain ⟨rfl, rfl, rfl⟩ := ey
      have hst := store_float
      clear hah ho hm da dc hz hf hzz hR hW e1 e2 e3 e4 e5 e6 e7 e8
      go_simp
      refine cast (congrArg (fun a => K' a _) ?_) (hK.out _ _ ⟨p, r, s0, s1, s3, s4, s6, s7, rfl, HM.out.1, HM.out.2⟩)
      rw [hp, hx]
    | 14, ho =>
      obtain rfl := Option.some.inj (show some _ = some o from ho)
      have da := hah ⟨11, .data⟩ (by simp) rfl
      have dc := hah ⟨8, .data⟩ (by simp) rfl
      obtain ⟨b, hp, hW, hz, _⟩ := H.out.1.ptr 2 da
      obtain ⟨⟨x0, x1, x2, hx⟩, hR⟩ := H.out.1.row 2 dc
      have hf : listed.getD 14 false = false := getD_false hm
      have hzz := hz hf
      have HM : Hid (Trio W (((wr.setCell ⟨b, 0, none⟩ x0).setCell ⟨b, 1, none⟩ x1).setCell ⟨b, 2, none⟩ x2) 93 #[.float .f64 0, .float .f64 0, .float .f64 0] (RR ax ay bx by' cx cy dx dy) (listed.setIfInBounds 14 true) p r ∧ Lds (listed.setIfInBounds 14 true) (.agg #[.int .i64 ax, .int .i64 ay]) (.agg #[.int .i64 bx, .int .i64 by']) (.agg #[.int .i64 cx, .int .i64 cy]) (.agg #[.int .i64 dx, .int .i64 dy]) s0 s1 s3 s4 s6 s7) := ⟨H.out.1.store rr_set 2 hm rfl hp hx hzz hW da dc, H.out.2.keep hm (by decide)⟩
      have HP : Hid (p 2 = .pointer (some ⟨b, 0, none⟩) ∧ r 2 = .agg #[x0, x1, x2]) := ⟨hp, hx⟩
      have c0 : wr.cell? ⟨b, 0, none⟩ = some (.float .f64 0) := by rw [cell_of_row wr b 0 _ _ (0, 0) hzz]; rfl
      have c1 : wr.cell? ⟨b, 1, none⟩ = some (.float .f64 0) := by rw [cell_of_row wr b 1 _ _ (0, 0) hzz]; rfl
      have c2 : wr.cell? ⟨b, 2, none⟩ = some (.float .f64 0) := by rw [cell_of_row wr b 2 _ _ (0, 0) hzz]; rfl
      have f0 := frozen_of_row wr b 0 _ _ hzz
      have f1 := frozen_of_row wr b 1 _ _ hzz
      have f2 := frozen_of_row wr b 2 _ _ hzz
      refine wpK fun K' hK => ?_
      obtain ⟨y0, y1, y2, ey⟩ := rr_form hR
      rw [hx] at ey
      simp only [Value.agg.injEq, Array.mk.injEq, List.cons.injEq, and_true] at ey
      obtain ⟨rfl, rfl, rfl⟩ := ey
      have hst := store_float
      clear hah ho hm da dc hz hf hzz hR hW e1 e2 e3 e4 e5 e6 e7 e8
      go_simp
      refine cast (congrArg (fun a => K' a _) ?_) (hK.out _ _ ⟨p, r, s0, s1, s3, s4, s6, s7, rfl, HM.out.1, HM.out.2⟩)
      rw [hp, hx]
    | n + 15, ho => exact absurd ho (by simp)
  case fin =>
    rintro listed a' wr ⟨p, r, s0, s1, s3, s4, s6, s7, rfl, H⟩ hall
    obtain ⟨x0, y0, t0, hr0, hu⟩ := (H.out.1.row 0 (hall 2 (by decide))).2
    obtain ⟨x1, y1, t1, hr1, hv⟩ := (H.out.1.row 1 (hall 5 (by decide))).2
    obtain ⟨x2, y2, t2, hr2, hw⟩ := (H.out.1.row 2 (hall 8 (by decide))).2
    obtain ⟨b0, hp0, _, _, hc0⟩ := H.out.1.ptr 0 (hall 9 (by decide))
    obtain ⟨b1, hp1, _, _, hc1⟩ := H.out.1.ptr 1 (hall 10 (by decide))
    obtain ⟨b2, hp2, _, _, hc2⟩ := H.out.1.ptr 2 (hall 11 (by decide))
    obtain ⟨_, _, _, i0, k0⟩ := hc0 (hall 12 (by decide))
    obtain ⟨_, _, _, i1, k1⟩ := hc1 (hall 13 (by decide))
    obtain ⟨_, _, _, i2, k2⟩ := hc2 (hall 14 (by decide))
    rw [hr0] at i0
    rw [hr1] at i1
    rw [hr2] at i2
    cases i0
    cases i1
    cases i2
    have HN : Hid (New w wr) := HW.out.trans' H.out.1.new
    have l0 := lt_of_block k0
    have l1 := lt_of_block k1
    have l2 := lt_of_block k2
    have a0 : wr.cell? ⟨b0, 0, none⟩ = some (.float .f64 x0.1) := by rw [cell_of_row wr b0 0 _ _ (0, 0) k0]; rfl
    have a1 : wr.cell? ⟨b0, 1, none⟩ = some (.float .f64 y0.1) := by rw [cell_of_row wr b0 1 _ _ (0, 0) k0]; rfl
    have a2 : wr.cell? ⟨b0, 2, none⟩ = some (.float .f64 t0.1) := by rw [cell_of_row wr b0 2 _ _ (0, 0) k0]; rfl
    have a3 : wr.cell? ⟨b1, 0, none⟩ = some (.float .f64 x1.1) := by rw [cell_of_row wr b1 0 _ _ (0, 0) k1]; rfl
    have a4 : wr.cell? ⟨b1, 1, none⟩ = some (.float .f64 y1.1) := by rw [cell_of_row wr b1 1 _ _ (0, 0) k1]; rfl
    have a5 : wr.cell? ⟨b1, 2, none⟩ = some (.float .f64 t1.1) := by rw [cell_of_row wr b1 2 _ _ (0, 0) k1]; rfl
    have a6 : wr.cell? ⟨b2, 0, none⟩ = some (.float .f64 x2.1) := by rw [cell_of_row wr b2 0 _ _ (0, 0) k2]; rfl
    have a7 : wr.cell? ⟨b2, 1, none⟩ = some (.float .f64 y2.1) := by rw [cell_of_row wr b2 1 _ _ (0, 0) k2]; rfl
    have a8 : wr.cell? ⟨b2, 2, none⟩ = some (.float .f64 t2.1) := by rw [cell_of_row wr b2 2 _ _ (0, 0) k2]; rfl
    have HU : Hid (RRow (ax - dx) (ay - dy) x0 y0 t0 ∧ RRow (bx - dx) (by' - dy) x1 y1 t1 ∧ RRow (cx - dx) (cy - dy) x2 y2 t2) := ⟨hu, hv, hw⟩
    rw [hp0, hp1, hp2]
    clear hu hv hw hc0 hc1 hc2 hr0 hr1 hr2 hp0 hp1 hp2 k0 k1 k2 H hall HS HW
    go_wp2_with fail
    refine (roughTerm_any _ HU.out.1 HU.out.2.1 HU.out.2.2).mono ?_
    rintro e w1 ⟨v1, z1, rfl, H1⟩
    have r1 := H1.out.1.rule
    go_wp2_with fail
    refine (roughTerm_any _ HU.out.2.1 HU.out.2.2 HU.out.1).mono ?_
    rintro e w2 ⟨v2, z2, rfl, H2⟩
    clear r1
    have r2 := (H1.out.1.trans' H2.out.1).rule
    go_wp2_with fail
    refine (roughTerm_any _ HU.out.2.2 HU.out.1 HU.out.2.1).mono ?_
    rintro e w3 ⟨v3, z3, rfl, H3⟩
    clear r2
    obtain ⟨a, d, b, t, s, zd, S, e1, e2, e3, e4, e5, fd, fs, q1, q2⟩ := circle_words H1.out.2 H2.out.2 H3.out.2
    have HQ : Hid ((S < zd * 2 ^ 49 → 0 < cdet ax ay bx by' cx cy dx dy) ∧ (zd * 2 ^ 49 < -S → cdet ax ay bx by' cx cy dx dy < 0) ∧ New w w3) := ⟨q1, q2, ((HN.out.trans' H1.out.1).trans' H2.out.1).trans' H3.out.1⟩
    have g1 := fadd e1 81
    have g2 := fadd e2 81
    have g3 := fadd e3 81
    have g4 := fadd e4 81
    have g5 := fmul e5 81
    clear q1 q2 e1 e2 e3 e4 e5 H1 H2 H3 HU HN a0 a1 a2 a3 a4 a5 a6 a7 a8 l0 l1 l2
    go_wp2_with fail
    refine (signBeyond_any d s zd S 49 _ fd fs).mono ?_
    rintro e w5 ⟨sg, bb, rfl, rfl, H5⟩
    go_wp2_with fail
    go_ret2
    refine ⟨sg, bb, rfl, HQ.out.2.2, fun hb => ?_⟩
    rcases H5.out hb with ⟨rfl, h⟩ | ⟨rfl, h⟩
    · have := HQ.out.1 h
      unfold sgn; rw [if_neg (by omega), if_neg (by omega)]
    · have := HQ.out.2.1 h
      unfold sgn; rw [if_pos this]

end Go.Proofs.Ytgeoffpcmkofkaa
/- The walk of 'exactCircle'. -/
namespace Go.Proofs.Ytgeoffpcmkofkaa
open Go.RowKit Fl
set_option maxRecDepth 100000

/-- The rows, not rounded. -/
def ER (ax ay bx by' cx cy dx dy : Int) (j : Fin 3) (v : Value) (w : World) : Prop :=
  ∃ (g1 g2 g3 c3 : Nat) (x y s : Ws), v = .agg #[.slice (some ⟨g1, 0, none⟩) x.length 2, .slice (some ⟨g2, 0, none⟩) y.length 2, .slice (some ⟨g3, 0, none⟩) s.length c3] ∧ ERow w ((if j = 0 then ax else if j = 1 then bx else cx) - dx) ((if j = 0 then ay else if j = 1 then by' else cy) - dy) g1 g2 g3 c3 x y s

section
variable {ax ay bx by' cx cy dx dy : Int}
theorem er_new : ∀ (j : Fin 3) (v : Value) (w w' : World), ER ax ay bx by' cx cy dx dy j v w → New w w' → ER ax ay bx by' cx cy dx dy j v w' := by
  rintro j v w w' ⟨g1, g2, g3, c3, x, y, s, e, h⟩ hn
  exact ⟨g1, g2, g3, c3, x, y, s, e, h.kept hn⟩
theorem er_set : ∀ (j : Fin 3) (v : Value) (w : World) (b : Nat) (x0 x1 x2 : Value), ER ax ay bx by' cx cy dx dy j v w → w.heap[b]? = some (.cells #[.slice none 0 0, .slice none 0 0, .slice none 0 0] 97 (0, 0)) → ER ax ay bx by' cx cy dx dy j v (((w.setCell ⟨b, 0, none⟩ x0).setCell ⟨b, 1, none⟩ x1).setCell ⟨b, 2, none⟩ x2) := by
  rintro j v w b x0 x1 x2 ⟨g1, g2, g3, c3, x, y, s, e, h⟩ hb
  exact ⟨g1, g2, g3, c3, x, y, s, e, h.nx.set3 (h.nx.lst.ne_block hb (by decide)) _ _ _, h.ny.set3 (h.ny.lst.ne_block hb (by decide)) _ _ _, h.ns.set3 (h.ns.lst.ne_block hb (by decide)) _ _ _⟩
theorem er_mk0 {g1 g2 g3 c3 : Nat} {x y s : Ws} {w : World} (h : ERow w (ax - dx) (ay - dy) g1 g2 g3 c3 x y s) : ER ax ay bx by' cx cy dx dy 0 (.agg #[.slice (some ⟨g1, 0, none⟩) x.length 2, .slice (some ⟨g2, 0, none⟩) y.length 2, .slice (some ⟨g3, 0, none⟩) s.length c3]) w := ⟨_, _, _, _, _, _, _, rfl, h⟩
theorem er_mk1 {g1 g2 g3 c3 : Nat} {x y s : Ws} {w : World} (h : ERow w (bx - dx) (by' - dy) g1 g2 g3 c3 x y s) : ER ax ay bx by' cx cy dx dy 1 (.agg #[.slice (some ⟨g1, 0, none⟩) x.length 2, .slice (some ⟨g2, 0, none⟩) y.length 2, .slice (some ⟨g3, 0, none⟩) s.length c3]) w := ⟨_, _, _, _, _, _, _, rfl, h⟩
theorem er_mk2 {g1 g2 g3 c3 : Nat} {x y s : Ws} {w : World} (h : ERow w (cx - dx) (cy - dy) g1 g2 g3 c3 x y s) : ER ax ay bx by' cx cy dx dy 2 (.agg #[.slice (some ⟨g1, 0, none⟩) x.length 2, .slice (some ⟨g2, 0, none⟩) y.length 2, .slice (some ⟨g3, 0, none⟩) s.length c3]) w := ⟨_, _, _, _, _, _, _, rfl, h⟩
theorem er_form {j : Fin 3} {v : Value} {w : World} (h : ER ax ay bx by' cx cy dx dy j v w) : ∃ (y0 : Nat) (n0 k0 : Nat) (y1 : Nat) (n1 k1 : Nat) (y2 : Nat) (n2 k2 : Nat), v = .agg #[.slice (some ⟨y0, 0, none⟩) n0 k0, .slice (some ⟨y1, 0, none⟩) n1 k1, .slice (some ⟨y2, 0, none⟩) n2 k2] := by
  obtain ⟨g1, g2, g3, c3, x, y, s, e, _⟩ := h
  exact ⟨_, _, _, _, _, _, _, _, _, e⟩
end

theorem nine_keep {W w' : World} {b0 b1 b2 : Nat} {p0 p1 p2 q0 q1 q2 r0 r1 r2 : Value} (hn : New W w') (hs : b0 < W.heap.size ∧ b1 < W.heap.size ∧ b2 < W.heap.size ∧ W.cell? ⟨b0, 0, none⟩ = some p0 ∧ W.cell? ⟨b0, 1, none⟩ = some p1 ∧ W.cell? ⟨b0, 2, none⟩ = some p2 ∧ W.cell? ⟨b1, 0, none⟩ = some q0 ∧ W.cell? ⟨b1, 1, none⟩ = some q1 ∧ W.cell? ⟨b1, 2, none⟩ = some q2 ∧ W.cell? ⟨b2, 0, none⟩ = some r0 ∧ W.cell? ⟨b2, 1, none⟩ = some r1 ∧ W.cell? ⟨b2, 2, none⟩ = some r2) :
    b0 < w'.heap.size ∧ b1 < w'.heap.size ∧ b2 < w'.heap.size ∧ w'.cell? ⟨b0, 0, none⟩ = some p0 ∧ w'.cell? ⟨b0, 1, none⟩ = some p1 ∧ w'.cell? ⟨b0, 2, none⟩ = some p2 ∧ w'.cell? ⟨b1, 0, none⟩ = some q0 ∧ w'.cell? ⟨b1, 1, none⟩ = some q1 ∧ w'.cell? ⟨b1, 2, none⟩ = some q2 ∧ w'.cell? ⟨b2, 0, none⟩ = some r0 ∧ w'.cell? ⟨b2, 1, none⟩ = some r1 ∧ w'.cell? ⟨b2, 2, none⟩ = some r2 := by
  obtain ⟨h0, h1, h2, a0, a1, a2, a3, a4, a5, a6, a7, a8⟩ := hs
  have := hn.size
  refine ⟨by omega, by omega, by omega, ?_, ?_, ?_, ?_, ?_, ?_, ?_, ?_, ?_⟩
  all_goals (rw [hn.rule _ _ (by omega)]; assumption)

set_option maxHeartbeats 6400000 in
theorem exactCircle_any (ax ay bx by' cx cy dx dy : Int) (w : World) (h1 : Cd ax) (h2 : Cd ay) (h3 : Cd bx) (h4 : Cd by') (h5 : Cd cx) (h6 : Cd cy) (h7 : Cd dx) (h8 : Cd dy) :
    Calls Try.prog 63 #[.agg #[.int .i64 ax, .int .i64 ay], .agg #[.int .i64 bx, .int .i64 by'], .agg #[.int .i64 cx, .int .i64 cy], .agg #[.int .i64 dx, .int .i64 dy]] w fun e w' =>
      e = .returned (.int .i64 (sgn (cdet ax ay bx by' cx cy dx dy))) ∧ Hid (New w w') := by
  obtain ⟨W, hW⟩ : ∃ W, W = (((w.alloc (.cells #[.int .i64 ax, .int .i64 ay] 23)).alloc (.cells #[.int .i64 bx, .int .i64 by'] 23)).alloc (.cells #[.int .i64 cx, .int .i64 cy] 23)).alloc (.cells #[.int .i64 dx, .int .i64 dy] 23) := ⟨_, rfl⟩
  have HW : Hid (New w W) := by rw [hW]; exact (((New.alloc _ _).alloc' _).alloc' _).alloc' _
  have HS : Hid (w.heap.size + 1 + 1 + 1 < W.heap.size ∧ W.cell? ⟨w.heap.size, 0, none⟩ = some (.int .i64 ax) ∧ W.cell? ⟨w.heap.size, 1, none⟩ = some (.int .i64 ay) ∧ W.cell? ⟨w.heap.size + 1, 0, none⟩ = some (.int .i64 bx) ∧ W.cell? ⟨w.heap.size + 1, 1, none⟩ = some (.int .i64 by') ∧ W.cell? ⟨w.heap.size + 1 + 1, 0, none⟩ = some (.int .i64 cx) ∧ W.cell? ⟨w.heap.size + 1 + 1, 1, none⟩ = some (.int .i64 cy) ∧ W.cell? ⟨w.heap.size + 1 + 1 + 1, 0, none⟩ = some (.int .i64 dx) ∧ W.cell? ⟨w.heap.size + 1 + 1 + 1, 1, none⟩ = some (.int .i64 dy)) := by
    rw [hW]
    refine ⟨by simp, ?_, ?_, ?_, ?_, ?_, ?_, ?_, ?_⟩ <;> go_simp
  go_enter Try.func63, Try.ntmps63
  go_wp2_with fail
  rw [← hW]
  clear hW
  refine wp_region_inv (by kernel_rfl) (fun listed a' w' => ∃ (p r : Fin 3 → Value) (s0 s1 s3 s4 s6 s7 : Value), a' = { tmps := #[.agg #[.int .i64 ax, .int .i64 ay], .agg #[.int .i64 bx, .int .i64 by'], .agg #[.int .i64 cx, .int .i64 cy], .agg #[.int .i64 dx, .int .i64 dy], .pointer (some ⟨w.heap.size, 0, none⟩), .pointer (some ⟨w.heap.size + 1, 0, none⟩), .pointer (some ⟨w.heap.size + 1 + 1, 0, none⟩), .pointer (some ⟨w.heap.size + 1 + 1 + 1, 0, none⟩), .int .i64 0, p 0, p 1, p 2, s0, s1, r 0, s3, s4, r 1, s6, s7, r 2, undef, undef, undef, undef, undef, undef, undef, undef, undef, undef, undef, undef, undef, undef, undef], defers := [] } ∧ Hid (Trio W w' 97 #[.slice none 0 0, .slice none 0 0, .slice none 0 0] (ER ax ay bx by' cx cy dx dy) listed p r ∧ Lds listed (.agg #[.int .i64 ax, .int .i64 ay]) (.agg #[.int .i64 bx, .int .i64 by']) (.agg #[.int .i64 cx, .int .i64 cy]) (.agg #[.int .i64 dx, .int .i64 dy]) s0 s1 s3 s4 s6 s7)) ?hac ?hg ?start ?step ?fin
  case hac => exact edges_ok (by kernel_rfl)
  case hg => exact guards_ok (by kernel_rfl)
  case start => exact ⟨fun _ => undef, fun _ => undef, undef, undef, undef, undef, undef, undef, rfl, Trio.start ((New.refl W).drewN 1) _, Lds.start _⟩
  case step =>
    rintro listed a' wr i o ⟨p, r, s0, s1, s3, s4, s6, s7, rfl, H⟩ ho hr
    have hm := hr.mine
    have hah := hr.ahead
    have q0 := eight_keep H.out.1.new HS.out
    obtain ⟨e0, e1, e2, e3, e4, e5, e6, e7, e8⟩ := q0
    clear hr e0
    match i, ho with
    | 0, ho =>
      obtain rfl := Option.some.inj (show some _ = some o from ho)
      refine wpK fun K' hK => ?_
      clear hah ho
      have HM : Hid (listed.getD 0 true = false) := hm
      clear hm
      go_simp
      exact hK.out _ _ ⟨p, r, (.agg #[.int .i64 ax, .int .i64 ay]), s1, s3, s4, s6, s7, rfl, H.out.1.load HM.out (by intro j; omega) (by omega), H.out.2.set0 HM.out⟩
    | 1, ho =>
      obtain rfl := Option.some.inj (show some _ = some o from ho)
      refine wpK fun K' hK => ?_
      clear hah ho
      have HM : Hid (listed.getD 1 true = false) := hm
      clear hm
      go_simp
      exact hK.out _ _ ⟨p, r, s0, (.agg #[.int .i64 dx, .int .i64 dy]), s3, s4, s6, s7, rfl, H.out.1.load HM.out (by intro j; omega) (by omega), H.out.2.set1 HM.out⟩
    | 2, ho =>
      obtain rfl := Option.some.inj (show some _ = some o from ho)
      have d0 := H.out.2.l0 (hah ⟨0, .data⟩ (by simp) rfl)
      have d1 := H.out.2.l1 (hah ⟨1, .data⟩ (by simp) rfl)
      subst d0 d1
      refine wpK fun K' hK => ?_
      clear hah ho
      have HM : Hid (listed.getD 2 true = false) := hm
      clear hm
      go_simp
      refine (newExactRow_any ax ay dx dy _ h1 h2 h7 h8).mono ?_
      rintro e w2 ⟨g1, g2, g3, c3, x, y, s, rfl, HC⟩
      dsimp only
      exact hK.out _ _ ⟨p, upd r 0 _, _, _, _, _, _, _, rfl, H.out.1.call er_new 0 HM.out HC.out.1 (er_mk0 HC.out.2), H.out.2.keep HM.out (by decide)⟩
    | 3, ho =>
      obtain rfl := Option.some.inj (show some _ = some o from ho)
      refine wpK fun K' hK => ?_
      clear hah ho
      have HM : Hid (listed.getD 3 true = false) := hm
      clear hm
      go_simp
      exact hK.out _ _ ⟨p, r, s0, s1, (.agg #[.int .i64 bx, .int .i64 by']), s4, s6, s7, rfl, H.out.1.load HM.out (by intro j; omega) (by omega), H.out.2.set3 HM.out⟩
    | 4, ho =>
      obtain rfl := Option.some.inj (show some _ = some o from ho)
      refine wpK fun K' hK => ?_
      clear hah ho
      have HM : Hid (listed.getD 4 true = false) := hm
      clear hm
      go_simp
      exact hK.out _ _ ⟨p, r, s0, s1, s3, (.agg #[.int .i64 dx, .int .i64 dy]), s6, s7, rfl, H.out.1.load HM.out (by intro j; omega) (by omega), H.out.2.set4 HM.out⟩
    | 5, ho =>
      obtain rfl := Option.some.inj (show some _ = some o from ho)
      have d0 := H.out.2.l3 (hah ⟨3, .data⟩ (by simp) rfl)
      have d1 := H.out.2.l4 (hah ⟨4, .data⟩ (by simp) rfl)
      subst d0 d1
      refine wpK fun K' hK => ?_
      clear hah ho
      have HM : Hid (listed.getD 5 true = false) := hm
      clear hm
      go_simp
      refine (newExactRow_any bx by' dx dy _ h3 h4 h7 h8).mono ?_
      rintro e w2 ⟨g1, g2, g3, c3, x, y, s, rfl, HC⟩
      dsimp only
      exact hK.out _ _ ⟨p, upd r 1 _, _, _, _, _, _, _, rfl, H.out.1.call er_new 1 HM.out HC.out.1 (er_mk1 HC.out.2), H.out.2.keep HM.out (by decide)⟩
    | 6, ho =>
      obtain rfl := Option.some.inj (show some _ = some o from ho)
      refine wpK fun K' hK => ?_
      clear hah ho
      have HM : Hid (listed.getD 6 true = false) := hm
      clear hm
      go_simp
      exact hK.out _ _ ⟨p, r, s0, s1, s3, s4, (.agg #[.int .i64 cx, .int .i64 cy]), s7, rfl, H.out.1.load HM.out (by intro j; omega) (by omega), H.out.2.set6 HM.out⟩
    | 7, ho =>
      obtain rfl := Option.some.inj (show some _ = some o from ho)
      refine wpK fun K' hK => ?_
      clear hah ho
      have HM : Hid (listed.getD 7 true = false) := hm
      clear hm
      go_simp
      exact hK.out _ _ ⟨p, r, s0, s1, s3, s4, s6, (.agg #[.int .i64 dx, .int .i64 dy]), rfl, H.out.1.load HM.out (by intro j; omega) (by omega), H.out.2.set7 HM.out⟩
    | 8, ho =>
      obtain rfl := Option.some.inj (show some _ = some o from ho)
      have d0 := H.out.2.l6 (hah ⟨6, .data⟩ (by simp) rfl)
      have d1 := H.out.2.l7 (hah ⟨7, .data⟩ (by simp) rfl)
      subst d0 d1
      refine wpK fun K' hK => ?_
      clear hah ho
      have HM : Hid (listed.getD 8 true = false) := hm
      clear hm
      go_simp
      refine (newExactRow_any cx cy dx dy _ h5 h6 h7 h8).mono ?_
      rintro e w2 ⟨g1, g2, g3, c3, x, y, s, rfl, HC⟩
      dsimp only
      exact hK.out _ _ ⟨p, upd r 2 _, _, _, _, _, _, _, rfl, H.out.1.call er_new 2 HM.out HC.out.1 (er_mk2 HC.out.2), H.out.2.keep HM.out (by decide)⟩
    | 9, ho =>
      obtain rfl := Option.some.inj (show some _ = some o from ho)
      refine wpK fun K' hK => ?_
      clear hah ho
      have HM : Hid (listed.getD 9 true = false) := hm
      clear hm
      go_simp
      exact hK.out _ _ ⟨upd p 0 _, r, s0, s1, s3, s4, s6, s7, rfl, H.out.1.alloc er_new 0 HM.out, H.out.2.keep HM.out (by decide)⟩
    | 10, ho =>
      obtain rfl := Option.some.inj (show some _ = some o from ho)
      refine wpK fun K' hK => ?_
      clear hah ho
      have HM : Hid (listed.getD 10 true = false) := hm
      clear hm
      go_simp
      exact hK.out _ _ ⟨upd p 1 _, r, s0, s1, s3, s4, s6, s7, rfl, H.out.1.alloc er_new 1 HM.out, H.out.2.keep HM.out (by decide)⟩
    | 11, ho =>
      obtain rfl := Option.some.inj (show some _ = some o from ho)
      refine wpK fun K' hK => ?_
      clear hah ho
      have HM : Hid (listed.getD 11 true = false) := hm
      clear hm
      go_simp
      exact hK.out _ _ ⟨upd p 2 _, r, s0, s1, s3, s4, s6, s7, rfl, H.out.1.alloc er_new 2 HM.out, H.out.2.keep HM.out (by decide)⟩
    | 12, ho =>
      obtain rfl := Option.some.inj (show some _ = some o from ho)
      have da := hah ⟨9, .data⟩ (by simp) rfl
      have dc := hah ⟨2, .data⟩ (by simp) rfl
      obtain ⟨b, hp, hW, hz, _⟩ := H.out.1.ptr 0 da
      obtain ⟨⟨x0, x1, x2, hx⟩, hR⟩ := H.out.1.row 0 dc
      have hf : listed.getD 12 false = false := getD_false hm
      have hzz := hz hf
      have HM : Hid (Trio W (((wr.setCell ⟨b, 0, none⟩ x0).setCell ⟨b, 1, none⟩ x1).setCell ⟨b, 2, none⟩ x2) 97 #[.slice none 0 0, .slice none 0 0, .slice none 0 0] (ER ax ay bx by' cx cy dx dy) (listed.setIfInBounds 12 true) p r ∧ Lds (listed.setIfInBounds 12 true) (.agg #[.int .i64 ax, .int .i64 ay]) (.agg #[.int .i64 bx, .int .i64 by']) (.agg #[.int .i64 cx, .int .i64 cy]) (.agg #[.int .i64 dx, .int .i64 dy]) s0 s1 s3 s4 s6 s7) := ⟨H.out.1.store er_set 0 hm rfl hp hx hzz hW da dc, H.out.2.keep hm (by decide)⟩
      have HP : Hid (p 0 = .pointer (some ⟨b, 0, none⟩) ∧ r 0 = .agg #[x0, x1, x2]) := ⟨hp, hx⟩
      have c0 : wr.cell? ⟨b, 0, none⟩ = some (.slice none 0 0) := by rw [cell_of_row wr b 0 _ _ (0, 0) hzz]; rfl
      have c1 : wr.cell? ⟨b, 1, none⟩ = some (.slice none 0 0) := by rw [cell_of_row wr b 1 _ _ (0, 0) hzz]; rfl
      have c2 : wr.cell? ⟨b, 2, none⟩ = some (.slice none 0 0) := by rw [cell_of_row wr b 2 _ _ (0, 0) hzz]; rfl
      have f0 := frozen_of_row wr b 0 _ _ hzz
      have f1 := frozen_of_row wr b 1 _ _ hzz
      have f2 := frozen_of_row wr b 2 _ _ hzz
      refine wpK fun K' hK => ?_
      obtain ⟨y0, n0, k0, y1, n1, k1, y2, n2, k2, ey⟩ := er_form hR
      rw [hx] at ey
      simp only [Value.agg.injEq, Array.mk.injEq, List.cons.injEq, and_true] at ey
      obtain ⟨rfl, rfl, rfl⟩ := ey
      clear hah ho hm da dc hz hf hzz hR hW e1 e2 e3 e4 e5 e6 e7 e8
      go_simp
      refine cast (congrArg (fun a => K' a _) ?_) (hK.out _ _ ⟨p, r, s0, s1, s3, s4, s6, s7, rfl, HM.out.1, HM.out.2⟩)
      rw [hp, hx]
    | 13, ho =>
      obtain rfl := Option.some.inj (show some _ = some o from ho)
      have da := hah ⟨10, .data⟩ (by simp) rfl
      have dc := hah ⟨5, .data⟩ (by simp) rfl
      obtain ⟨b, hp, hW, hz, _⟩ := H.out.1.ptr 1 da
      obtain ⟨⟨x0, x1, x2, hx⟩, hR⟩ := H.out.1.row 1 dc
      have hf : listed.getD 13 false = false := getD_false hm
      have hzz := hz hf
      have HM : Hid (Trio W (((wr.setCell ⟨b, 0, none⟩ x0).setCell ⟨b, 1, none⟩ x1).setCell ⟨b, 2, none⟩ x2) 97 #[.slice none 0 0, .slice none 0 0, .slice none 0 0] (ER ax ay bx by' cx cy dx dy) (listed.setIfInBounds 13 true) p r ∧ Lds (listed.setIfInBounds 13 true) (.agg #[.int .i64 ax, .int .i64 ay]) (.agg #[.int .i64 bx, .int .i64 by']) (.agg #[.int .i64 cx, .int .i64 cy]) (.agg #[.int .i64 dx, .int .i64 dy]) s0 s1 s3 s4 s6 s7) := ⟨H.out.1.store er_set 1 hm rfl hp hx hzz hW da dc, H.out.2.keep hm (by decide)⟩
      have HP : Hid (p 1 = .pointer (some ⟨b, 0, none⟩) ∧ r 1 = .agg #[x0, x1, x2]) := ⟨hp, hx⟩
      have c0 : wr.cell? ⟨b, 0, none⟩ = some (.slice none 0 0) := by rw [cell_of_row wr b 0 _ _ (0, 0) hzz]; rfl
      have c1 : wr.cell? ⟨b, 1, none⟩ = some (.slice none 0 0) := by rw [cell_of_row wr b 1 _ _ (0, 0) hzz]; rfl
      have c2 : wr.cell? ⟨b, 2, none⟩ = some (.slice none 0 0) := by rw [cell_of_row wr b 2 _ _ (0, 0) hzz]; rfl
      have f0 := frozen_of_row wr b 0 _ _ hzz
      have f1 := frozen_of_row wr b 1 _ _ hzz
      have f2 := frozen_of_row wr b 2 _ _ hzz
      refine wpK fun K' hK => ?_
      obtain ⟨y0, n0, k0, y1, n1, k1, y2, n2, k2, ey⟩ := er_form hR
      rw [hx] at ey
      simp only [Value.agg.injEq, Array.mk.injEq, List.cons.injEq, and_true] at ey
      obtain ⟨rfl, rfl, rfl⟩ := ey
      clear hah ho hm da dc hz hf hzz hR hW e1 e2 e3 e4 e5 e6 e7 e8
      go_simp
      refine cast (congrArg (fun a => K' a _) ?_) (hK.out _ _ ⟨p, r, s0, s1, s3, s4, s6, s7, rfl, HM.out.1, HM.out.2⟩)
      rw [hp, hx]
    | 14, ho =>
      obtain rfl := Option.some.inj (show some _ = some o from ho)
      have da := hah ⟨11, .data⟩ (by simp) rfl
      have dc := hah ⟨8, .data⟩ (by simp) rfl
      obtain ⟨b, hp, hW, hz, _⟩ := H.out.1.ptr 2 da
      obtain ⟨⟨x0, x1, x2, hx⟩, hR⟩ := H.out.1.row 2 dc
      have hf : listed.getD 14 false = false := getD_false hm
      have hzz := hz hf
      have HM : Hid (Trio W (((wr.setCell ⟨b, 0, none⟩ x0).setCell ⟨b, 1, none⟩ x1).setCell ⟨b, 2, none⟩ x2) 97 #[.slice none 0 0, .slice none 0 0, .slice none 0 0] (ER ax ay bx by' cx cy dx dy) (listed.setIfInBounds 14 true) p r ∧ Lds (listed.setIfInBounds 14 true) (.agg #[.int .i64 ax, .int .i64 ay]) (.agg #[.int .i64 bx, .int .i64 by']) (.agg #[.int .i64 cx, .int .i64 cy]) (.agg #[.int .i64 dx, .int .i64 dy]) s0 s1 s3 s4 s6 s7) := ⟨H.out.1.store er_set 2 hm rfl hp hx hzz hW da dc, H.out.2.keep hm (by decide)⟩
      have HP : Hid (p 2 = .pointer (some ⟨b, 0, none⟩) ∧ r 2 = .agg #[x0, x1, x2]) := ⟨hp, hx⟩
      have c0 : wr.cell? ⟨b, 0, none⟩ = some (.slice none 0 0) := by rw [cell_of_row wr b 0 _ _ (0, 0) hzz]; rfl
      have c1 : wr.cell? ⟨b, 1, none⟩ = some (.slice none 0 0) := by rw [cell_of_row wr b 1 _ _ (0, 0) hzz]; rfl
      have c2 : wr.cell? ⟨b, 2, none⟩ = some (.slice none 0 0) := by rw [cell_of_row wr b 2 _ _ (0, 0) hzz]; rfl
      have f0 := frozen_of_row wr b 0 _ _ hzz
      have f1 := frozen_of_row wr b 1 _ _ hzz
      have f2 := frozen_of_row wr b 2 _ _ hzz
      refine wpK fun K' hK => ?_
      obtain ⟨y0, n0, k0, y1, n1, k1, y2, n2, k2, ey⟩ := er_form hR
      rw [hx] at ey
      simp only [Value.agg.injEq, Array.mk.injEq, List.cons.injEq, and_true] at ey
      obtain ⟨rfl, rfl, rfl⟩ := ey
      clear hah ho hm da dc hz hf hzz hR hW e1 e2 e3 e4 e5 e6 e7 e8
      go_simp
      refine cast (congrArg (fun a => K' a _) ?_) (hK.out _ _ ⟨p, r, s0, s1, s3, s4, s6, s7, rfl, HM.out.1, HM.out.2⟩)
      rw [hp, hx]
    | n + 15, ho => exact absurd ho (by simp)
  case fin =>
    rintro listed a' wr ⟨p, r, s0', s1', s3', s4', s6', s7', rfl, H⟩ hall
    obtain ⟨x0, y0, s0, c0, k0, l0, m0, hr0, hu⟩ := (H.out.1.row 0 (hall 2 (by decide))).2
    obtain ⟨x1, y1, s1, c1, k1, l1, m1, hr1, hv⟩ := (H.out.1.row 1 (hall 5 (by decide))).2
    obtain ⟨x2, y2, s2, c2, k2, l2, m2, hr2, hw⟩ := (H.out.1.row 2 (hall 8 (by decide))).2
    obtain ⟨b0, hp0, _, _, hc0⟩ := H.out.1.ptr 0 (hall 9 (by decide))
    obtain ⟨b1, hp1, _, _, hc1⟩ := H.out.1.ptr 1 (hall 10 (by decide))
    obtain ⟨b2, hp2, _, _, hc2⟩ := H.out.1.ptr 2 (hall 11 (by decide))
    obtain ⟨_, _, _, i0, e0⟩ := hc0 (hall 12 (by decide))
    obtain ⟨_, _, _, i1, e1⟩ := hc1 (hall 13 (by decide))
    obtain ⟨_, _, _, i2, e2⟩ := hc2 (hall 14 (by decide))
    rw [hr0] at i0
    rw [hr1] at i1
    rw [hr2] at i2
    cases i0
    cases i1
    cases i2
    have a0 : wr.cell? ⟨b0, 0, none⟩ = some (.slice (some ⟨x0, 0, none⟩) k0.length 2) := by rw [cell_of_row wr b0 0 _ _ (0, 0) e0]; rfl
    have a1 : wr.cell? ⟨b0, 1, none⟩ = some (.slice (some ⟨y0, 0, none⟩) l0.length 2) := by rw [cell_of_row wr b0 1 _ _ (0, 0) e0]; rfl
    have a2 : wr.cell? ⟨b0, 2, none⟩ = some (.slice (some ⟨s0, 0, none⟩) m0.length c0) := by rw [cell_of_row wr b0 2 _ _ (0, 0) e0]; rfl
    have a3 : wr.cell? ⟨b1, 0, none⟩ = some (.slice (some ⟨x1, 0, none⟩) k1.length 2) := by rw [cell_of_row wr b1 0 _ _ (0, 0) e1]; rfl
    have a4 : wr.cell? ⟨b1, 1, none⟩ = some (.slice (some ⟨y1, 0, none⟩) l1.length 2) := by rw [cell_of_row wr b1 1 _ _ (0, 0) e1]; rfl
    have a5 : wr.cell? ⟨b1, 2, none⟩ = some (.slice (some ⟨s1, 0, none⟩) m1.length c1) := by rw [cell_of_row wr b1 2 _ _ (0, 0) e1]; rfl
    have a6 : wr.cell? ⟨b2, 0, none⟩ = some (.slice (some ⟨x2, 0, none⟩) k2.length 2) := by rw [cell_of_row wr b2 0 _ _ (0, 0) e2]; rfl
    have a7 : wr.cell? ⟨b2, 1, none⟩ = some (.slice (some ⟨y2, 0, none⟩) l2.length 2) := by rw [cell_of_row wr b2 1 _ _ (0, 0) e2]; rfl
    have a8 : wr.cell? ⟨b2, 2, none⟩ = some (.slice (some ⟨s2, 0, none⟩) m2.length c2) := by rw [cell_of_row wr b2 2 _ _ (0, 0) e2]; rfl
    have hS : b0 < wr.heap.size ∧ b1 < wr.heap.size ∧ b2 < wr.heap.size ∧ wr.cell? ⟨b0, 0, none⟩ = some (.slice (some ⟨x0, 0, none⟩) k0.length 2) ∧ wr.cell? ⟨b0, 1, none⟩ = some (.slice (some ⟨y0, 0, none⟩) l0.length 2) ∧ wr.cell? ⟨b0, 2, none⟩ = some (.slice (some ⟨s0, 0, none⟩) m0.length c0) ∧ wr.cell? ⟨b1, 0, none⟩ = some (.slice (some ⟨x1, 0, none⟩) k1.length 2) ∧ wr.cell? ⟨b1, 1, none⟩ = some (.slice (some ⟨y1, 0, none⟩) l1.length 2) ∧ wr.cell? ⟨b1, 2, none⟩ = some (.slice (some ⟨s1, 0, none⟩) m1.length c1) ∧ wr.cell? ⟨b2, 0, none⟩ = some (.slice (some ⟨x2, 0, none⟩) k2.length 2) ∧ wr.cell? ⟨b2, 1, none⟩ = some (.slice (some ⟨y2, 0, none⟩) l2.length 2) ∧ wr.cell? ⟨b2, 2, none⟩ = some (.slice (some ⟨s2, 0, none⟩) m2.length c2) := ⟨lt_of_block e0, lt_of_block e1, lt_of_block e2, a0, a1, a2, a3, a4, a5, a6, a7, a8⟩
    have HN : Hid (New w wr.drew) := (HW.out.trans' H.out.1.new).drewN 1
    have HD : Hid (New wr wr.drew) := (New.refl wr).drewN 1
    have HU : Hid (ERow wr.drew (ax - dx) (ay - dy) x0 y0 s0 c0 k0 l0 m0 ∧ ERow wr.drew (bx - dx) (by' - dy) x1 y1 s1 c1 k1 l1 m1 ∧ ERow wr.drew (cx - dx) (cy - dy) x2 y2 s2 c2 k2 l2 m2) := ⟨hu.kept HD.out, hv.kept HD.out, hw.kept HD.out⟩
    rw [hp0, hp1, hp2]
    clear a0 a1 a2 a3 a4 a5 a6 a7 a8 hu hv hw hc0 hc1 hc2 hr0 hr1 hr2 hp0 hp1 hp2 e0 e1 e2 H hall HS HW
    go_wp2_with fail
    go_region_held3 (fun w' => b0 < w'.heap.size ∧ b1 < w'.heap.size ∧ b2 < w'.heap.size ∧ w'.cell? ⟨b0, 0, none⟩ = some (.slice (some ⟨x0, 0, none⟩) k0.length 2) ∧ w'.cell? ⟨b0, 1, none⟩ = some (.slice (some ⟨y0, 0, none⟩) l0.length 2) ∧ w'.cell? ⟨b0, 2, none⟩ = some (.slice (some ⟨s0, 0, none⟩) m0.length c0) ∧ w'.cell? ⟨b1, 0, none⟩ = some (.slice (some ⟨x1, 0, none⟩) k1.length 2) ∧ w'.cell? ⟨b1, 1, none⟩ = some (.slice (some ⟨y1, 0, none⟩) l1.length 2) ∧ w'.cell? ⟨b1, 2, none⟩ = some (.slice (some ⟨s1, 0, none⟩) m1.length c1) ∧ w'.cell? ⟨b2, 0, none⟩ = some (.slice (some ⟨x2, 0, none⟩) k2.length 2) ∧ w'.cell? ⟨b2, 1, none⟩ = some (.slice (some ⟨y2, 0, none⟩) l2.length 2) ∧ w'.cell? ⟨b2, 2, none⟩ = some (.slice (some ⟨s2, 0, none⟩) m2.length c2))
      (first | exact hS | exact nine_keep H6.out (by assumption) | exact nine_keep H5.out.2.2 (by assumption) | exact nine_keep H4.out.1 (by assumption) | exact nine_keep H3.out.2.2 (by assumption) | exact nine_keep H2.out.1 (by assumption) | exact nine_keep H1.out.1 (by assumption) | go_keep)
      (first
        | (go_at_call 82; refine (exactTerm_any _ (((HU.out.2.2.kept H1.out.1).kept H2.out.1).kept H3.out.2.2) (((HU.out.1.kept H1.out.1).kept H2.out.1).kept H3.out.2.2) (((HU.out.2.1.kept H1.out.1).kept H2.out.1).kept H3.out.2.2)).mono ?_; rintro e w4 ⟨g4, d4, z4, rfl, H4⟩)
        | (go_at_call 82; refine (exactTerm_any _ (HU.out.2.1.kept H1.out.1) (HU.out.2.2.kept H1.out.1) (HU.out.1.kept H1.out.1)).mono ?_; rintro e w2 ⟨g2, d2, z2, rfl, H2⟩)
        | (go_at_call 82; refine (exactTerm_any _ HU.out.1 HU.out.2.1 HU.out.2.2).mono ?_; rintro e w1 ⟨g1, d1, z1, rfl, H1⟩)
        | (go_at_call 83; refine (plus_nm (H3.out.1.kept H4.out.1) ⟨H4.out.2.lst, H4.out.2.tot, Int.le_trans H4.out.2.mass (p2_le (by omega)), H4.out.2.len⟩ (by omega) (by omega) (by omega)).mono ?_; rintro e w5 ⟨g5, d5, z5, rfl, H5⟩)
        | (go_at_call 83; refine (plus_nm (H1.out.2.kept H2.out.1) H2.out.2 (by omega) (by omega) (by omega)).mono ?_; rintro e w3 ⟨g3, d3, z3, rfl, H3⟩)
        | (go_at_call 78; refine (sign_any _ _ _ _ H5.out.1.lst).mono ?_; rintro e w6 ⟨rfl, rfl⟩))
    go_wp2_with fail
    go_ret
    refine ⟨?_, ((((HN.out.trans' H1.out.1).trans' H2.out.1).trans' H3.out.2.2).trans' H4.out.1).trans' H5.out.2.2⟩
    rw [H5.out.1.tot]; rfl

end Go.Proofs.Ytgeoffpcmkofkaa
/- The walks of 'OfCircle' and of plumb's 'Circle'. -/
namespace Go.Proofs.Ytgeoffpcmkofkaa
open Go.RowKit Fl
set_option maxRecDepth 100000

set_option maxHeartbeats 800000 in
theorem ofCircle_any (ax ay bx by' cx cy dx dy : Int) (w : World) (h1 : Cd ax) (h2 : Cd ay) (h3 : Cd bx) (h4 : Cd by') (h5 : Cd cx) (h6 : Cd cy) (h7 : Cd dx) (h8 : Cd dy) :
    Calls Try.prog 43 #[.agg #[.int .i64 ax, .int .i64 ay], .agg #[.int .i64 bx, .int .i64 by'], .agg #[.int .i64 cx, .int .i64 cy], .agg #[.int .i64 dx, .int .i64 dy]] w fun e w' =>
      e = .returned (.int .i64 (sgn (cdet ax ay bx by' cx cy dx dy))) ∧ Hid (New w w') := by
  go_enter Try.func43, Try.ntmps43
  go_wp2_with fail
  refine (roughCircle_any ax ay bx by' cx cy dx dy _ h1 h2 h3 h4 h5 h6 h7 h8).mono ?_
  rintro e w1 ⟨sg, b, rfl, H1⟩
  have r1 := H1.out.1.rule
  have HN : Hid (New w w1) := ((((New.alloc _ _).alloc' _).alloc' _).alloc' _).trans' H1.out.1
  cases b with
  | true =>
    have hs := H1.out.2 rfl
    subst hs
    go_wp2_with fail
    go_ret
    exact ⟨rfl, HN.out⟩
  | false =>
    go_wp2_with fail
    refine (exactCircle_any ax ay bx by' cx cy dx dy _ h1 h2 h3 h4 h5 h6 h7 h8).mono ?_
    rintro e w2 ⟨rfl, H2⟩
    clear r1
    go_wp2_with fail
    go_ret
    exact ⟨rfl, HN.out.trans' H2.out⟩

set_option maxHeartbeats 800000 in
theorem circle_ok (ax ay bx by' cx cy dx dy : Int) (w : World) (hok : okB [(ax, ay), (bx, by'), (cx, cy), (dx, dy)] = true) :
    Calls Try.prog 14 #[.agg #[.int .i64 ax, .int .i64 ay], .agg #[.int .i64 bx, .int .i64 by'], .agg #[.int .i64 cx, .int .i64 cy], .agg #[.int .i64 dx, .int .i64 dy]] w fun e w' =>
      e = .returned (.tuple #[.int .i64 (sgn (cdet ax ay bx by' cx cy dx dy)), .int .i64 0]) ∧ Hid (New w w') := by
  have HO : Hid (okE [(ax, ay), (bx, by'), (cx, cy), (dx, dy)] = 0 ∧ (Cd ax ∧ Cd ay) ∧ (Cd bx ∧ Cd by') ∧ (Cd cx ∧ Cd cy) ∧ (Cd dx ∧ Cd dy)) := ⟨by rw [okE, hok]; rfl, okB_cd hok (p := (ax, ay)) (by simp), okB_cd hok (p := (bx, by')) (by simp), okB_cd hok (p := (cx, cy)) (by simp), okB_cd hok (p := (dx, dy)) (by simp)⟩
  clear hok
  go_enter Try.func14, Try.ntmps14
  go_wp2_with fail
  refine (check4 ax ay bx by' cx cy dx dy _ _ (by simp)).mono ?_
  rintro e w1 ⟨rfl, H1⟩
  have r1 := H1.out.rule
  have hE := HO.out.1
  go_wp2_with fail
  refine (ofCircle_any ax ay bx by' cx cy dx dy _ HO.out.2.1.1 HO.out.2.1.2 HO.out.2.2.1.1 HO.out.2.2.1.2 HO.out.2.2.2.1.1 HO.out.2.2.2.1.2 HO.out.2.2.2.2.1 HO.out.2.2.2.2.2).mono ?_
  rintro e w2 ⟨rfl, H2⟩
  clear r1
  go_wp2_with fail
  go_ret2
  exact ⟨rfl, (((((New.alloc _ _).alloc' _).alloc' _).alloc' _).trans' H1.out).trans' H2.out⟩

set_option maxHeartbeats 800000 in
theorem circle_bad (ax ay bx by' cx cy dx dy : Int) (w : World) (hok : okB [(ax, ay), (bx, by'), (cx, cy), (dx, dy)] = false) :
    Calls Try.prog 14 #[.agg #[.int .i64 ax, .int .i64 ay], .agg #[.int .i64 bx, .int .i64 by'], .agg #[.int .i64 cx, .int .i64 cy], .agg #[.int .i64 dx, .int .i64 dy]] w fun e w' =>
      e = .returned (.tuple #[.int .i64 0, .int .i64 1]) ∧ Hid (New w w') := by
  have HO : Hid (okE [(ax, ay), (bx, by'), (cx, cy), (dx, dy)] = 1) := by rw [Hid, okE, hok]; rfl
  clear hok
  go_enter Try.func14, Try.ntmps14
  go_wp2_with fail
  refine (check4 ax ay bx by' cx cy dx dy _ _ (by simp)).mono ?_
  rintro e w1 ⟨rfl, H1⟩
  have hE := HO.out
  go_wp2_with fail
  go_ret2
  exact ⟨rfl, ((((New.alloc _ _).alloc' _).alloc' _).alloc' _).trans' H1.out⟩

end Go.Proofs.Ytgeoffpcmkofkaa
