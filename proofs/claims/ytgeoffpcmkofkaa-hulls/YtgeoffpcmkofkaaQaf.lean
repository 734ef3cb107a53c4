/- Wt; Wu; Wv; Fp; Wo; Wp; Wq: texts laid into one. -/
import Derived.Test.YtgeoffpcmkofkaaQae
import Derived.Deep.RegionHeld3
/- The walks of package side: 'newRoughRow', 'roughTerm'. -/
namespace Go.Proofs.Ytgeoffpcmkofkaa
open Go.RowKit Fl
set_option maxRecDepth 100000

/-- A row of the determinant, rounded. -/
structure RRow (X Y : Int) (x y s : Nat × Int) : Prop where
  dx : Df X x
  dy : Df Y y
  ws : F s.1 s.2 0
  err : E (X * X + Y * Y) s.2 s.2 521
  nn : 0 ≤ s.2
  small : (s.2.natAbs : Int) ≤ 2 ^ 111

theorem sq_nonneg (x : Int) : 0 ≤ x * x := by
  rcases Int.le_total 0 x with h | h
  · exact Int.mul_nonneg h h
  · have := Int.mul_nonneg (show 0 ≤ -x by omega) (show 0 ≤ -x by omega)
    have e : -x * -x = x * x := by grind
    omega

theorem rrow_words {X Y : Int} {x y : Nat × Int} (h1 : Df X x) (h2 : Df Y y) :
    ∃ (a b : Nat) (s : Nat × Int), Ieee.double.mul x.1 x.1 = some a ∧ Ieee.double.mul y.1 y.1 = some b ∧ Ieee.double.add a b = some s.1 ∧ RRow X Y x y s := by
  have b1 := mul_le_p2 h1.p2 h1.p2
  have b2 := mul_le_p2 h2.p2 h2.p2
  obtain ⟨a, za, e1, q1, f1⟩ := h1.word.mul h1.word (by omega) (small_Big b1 (by omega))
  obtain ⟨b, zb, e2, q2, f2⟩ := h2.word.mul h2.word (by omega) (small_Big b2 (by omega))
  have c1 := rnd_p2 q1 b1
  have c2 := rnd_p2 q2 b2
  have b3 := add_le_p2 c1 c2
  obtain ⟨s, zs, e3, q3, f3⟩ := f1.add f2 (by omega) (small_Big b3 (by omega))
  have na : 0 ≤ za := q1.ge Rep.zero (sq_nonneg _)
  have nb : 0 ≤ zb := q2.ge Rep.zero (sq_nonneg _)
  have ns : 0 ≤ zs := q3.ge Rep.zero (by omega)
  have E1 : E (X * X) za za.natAbs 391 := (((E.rnd h1.rnd).mul (E.rnd h1.rnd) (by omega) (by omega) (by omega) (by omega)).round q1 (by rw [Int.natAbs_mul, Int.natCast_mul]) (by omega) (by omega)).mono (by omega)
  have E2 : E (Y * Y) zb zb.natAbs 391 := (((E.rnd h2.rnd).mul (E.rnd h2.rnd) (by omega) (by omega) (by omega) (by omega)).round q2 (by rw [Int.natAbs_mul, Int.natCast_mul]) (by omega) (by omega)).mono (by omega)
  have E3 := (E1.add E2).round q3 (by omega) (by omega) (by omega)
  have e4 : ((zs.natAbs : Int)) = zs := by omega
  rw [e4] at E3
  exact ⟨a, b, (s, zs), e1, e2, e3, h1, h2, f3, E3.mono (by omega), ns, rnd_p2 q3 b3⟩

theorem New.below' {w w' : World} (h : New w w') : Below w.heap.size w w' := ⟨h.os, h.tape, h.output, h.size, fun k hk => h.block k hk (by simp)⟩
theorem Below.new' {w w' : World} (h : Below w.heap.size w w') : New w w' := ⟨h.os, h.tape, h.output, h.size, fun k hk _ => h.block k hk⟩
theorem New.frule' {W w1 : World} (h : New W w1) : ∀ b o, b < W.heap.size → w1.frozen? ⟨b, o, none⟩ = W.frozen? ⟨b, o, none⟩ :=
  fun b o hb => World.frozen?_of_block (a := ⟨b, o, none⟩) (h.block b hb (by simp))

theorem store_float (a : Addr) (b : Nat) (w : World) : (store a (.float .f64 b)).run Try.prog w = stored Try.prog w a (.float .f64 b) .plain := run_store Try.prog w a _ _ rfl

set_option maxHeartbeats 400000 in
theorem newRoughRow_any (px py dx dy : Int) (w : World) (h1 : Cd px) (h2 : Cd py) (h3 : Cd dx) (h4 : Cd dy) :
    Calls Try.prog 79 #[.agg #[.int .i64 px, .int .i64 py], .agg #[.int .i64 dx, .int .i64 dy]] w fun e w' =>
      ∃ x y s : Nat × Int, e = .returned (.agg #[.float .f64 x.1, .float .f64 y.1, .float .f64 s.1]) ∧ Hid (New w w' ∧ RRow (px - dx) (py - dy) x y s) := by
  go_enter Try.func79, Try.ntmps79
  go_wp2_with fail
  refine (roughApart_any px py dx dy _ h1 h2 h3 h4).mono ?_
  rintro e w1 ⟨x, y, rfl, H1⟩
  obtain ⟨a, b, s, e1, e2, e3, hr⟩ := rrow_words H1.out.2.1 H1.out.2.2
  have HR : Hid (New (((w.alloc (.cells #[.int .i64 px, .int .i64 py] 23)).alloc (.cells #[.int .i64 dx, .int .i64 dy] 23)).alloc (.cells #[.float .f64 0, .float .f64 0, .float .f64 0] 93)) w1 ∧ RRow (px - dx) (py - dy) x y s) := ⟨H1.out.1, hr⟩
  have g1 := fmul e1 81
  have g2 := fmul e2 81
  have g3 := fadd e3 81
  have q0 : w1.cell? ⟨w.heap.size + 1 + 1, 0, none⟩ = some (.float .f64 0) := by rw [HR.out.1.rule _ _ (by simp)]; go_simp
  have q1 : w1.cell? ⟨w.heap.size + 1 + 1, 1, none⟩ = some (.float .f64 0) := by rw [HR.out.1.rule _ _ (by simp)]; go_simp
  have q2 : w1.cell? ⟨w.heap.size + 1 + 1, 2, none⟩ = some (.float .f64 0) := by rw [HR.out.1.rule _ _ (by simp)]; go_simp
  have q3 : ∀ o, w1.frozen? ⟨w.heap.size + 1 + 1, o, none⟩ = false := by intro o; rw [HR.out.1.frule' _ _ (by simp)]; go_simp
  have hst := store_float
  have f0 := q3 0
  have f1 := q3 1
  have f2 := q3 2
  clear e1 e2 e3 H1 hr q3
  go_wp2_with fail
  refine bodyPost_ret (v := .agg #[.float .f64 x.1, .float .f64 y.1, .float .f64 s.1]) (by simp [results, Try.results79, go_sem, q0, q1, q2]) rfl ?_
  refine ⟨x, y, s, rfl, ?_, HR.out.2⟩
  exact Below.new' ((((New.below' ((((New.alloc w _).alloc' _).alloc' _).trans' HR.out.1)).setCell (p := ⟨w.heap.size + 1 + 1, 0, none⟩) (by simp <;> omega) (.float .f64 x.1)).setCell (p := ⟨w.heap.size + 1 + 1, 1, none⟩) (by simp <;> omega) (.float .f64 y.1)).setCell (p := ⟨w.heap.size + 1 + 1, 2, none⟩) (by simp <;> omega) (.float .f64 s.1))

/-- A term of the determinant, rounded, and its size. -/
structure RTerm (T : Int) (val size : Nat × Int) : Prop where
  wv : F val.1 val.2 0
  wz : F size.1 size.2 0
  err : ∃ s, E T val.2 s 1175 ∧ G s size.2 259
  sv : (val.2.natAbs : Int) ≤ 2 ^ 222
  sz : (size.2.natAbs : Int) ≤ 2 ^ 222

theorem rterm_words {A B C D X Y : Int} {ux uy us vx vy vs wx wy ws : Nat × Int} (hu : RRow X Y ux uy us) (hv : RRow A B vx vy vs) (hw : RRow C D wx wy ws) :
    ∃ (l r d t : Nat) (val size : Nat × Int), Ieee.double.mul vx.1 wy.1 = some l ∧ Ieee.double.mul vy.1 wx.1 = some r ∧ Ieee.double.sub l r = some d ∧ Ieee.double.mul us.1 d = some val.1 ∧ Ieee.double.add (ab l) (ab r) = some t ∧ Ieee.double.mul us.1 t = some size.1 ∧
      l < 2 ^ 64 ∧ r < 2 ^ 64 ∧ RTerm ((X * X + Y * Y) * (A * D - B * C)) val size := by
  have b1 := mul_le_p2 hv.dx.p2 hw.dy.p2
  have b2 := mul_le_p2 hv.dy.p2 hw.dx.p2
  obtain ⟨l, zl, e1, q1, f1⟩ := hv.dx.word.mul hw.dy.word (by omega) (small_Big b1 (by omega))
  obtain ⟨r, zr, e2, q2, f2⟩ := hv.dy.word.mul hw.dx.word (by omega) (small_Big b2 (by omega))
  have c1 := rnd_p2 q1 b1
  have c2 := rnd_p2 q2 b2
  have b3 := sub_le_p2 c1 c2
  obtain ⟨d, zd, e3, q3, f3⟩ := f1.sub f2 (by omega) (small_Big b3 (by omega))
  have c3 := rnd_p2 q3 b3
  have b4 : (((zl.natAbs : Int) + (zr.natAbs : Int)).natAbs : Int) ≤ 2 ^ (55 + 55 + 1) := add_le_p2 (by simpa using c1) (by simpa using c2)
  obtain ⟨t, zt, e4, q4, f4⟩ := f1.abs.add f2.abs (by omega) (small_Big b4 (by omega))
  have c4 := rnd_p2 q4 b4
  have b5 := mul_le_p2 hu.small c3
  have b6 := mul_le_p2 hu.small c4
  obtain ⟨v, zv, e5, q5, f5⟩ := hu.ws.mul f3 (by omega) (small_Big b5 (by omega))
  obtain ⟨z, zz, e6, q6, f6⟩ := hu.ws.mul f4 (by omega) (small_Big b6 (by omega))
  have E1 : E (A * D) zl zl.natAbs 391 := (((E.rnd hv.dx.rnd).mul (E.rnd hw.dy.rnd) (by omega) (by omega) (by omega) (by omega)).round q1 (by rw [Int.natAbs_mul, Int.natCast_mul]) (by omega) (by omega)).mono (by omega)
  have E2 : E (B * C) zr zr.natAbs 391 := (((E.rnd hv.dy.rnd).mul (E.rnd hw.dx.rnd) (by omega) (by omega) (by omega) (by omega)).round q2 (by rw [Int.natAbs_mul, Int.natCast_mul]) (by omega) (by omega)).mono (by omega)
  have E3 := (E1.sub E2).roundS q3 (by omega) (by omega)
  have E4 := ((hu.err.mul E3 (by omega) (by omega) (by omega) (by omega)).roundS q5 (by omega) (by omega)).mono (show _ ≤ 1175 by omega)
  have G1 := ((G.rnd q4 (by omega)).mul hu.nn).round q6 (by omega) (by omega)
  exact ⟨l, r, d, t, (v, zv), (z, zz), e1, e2, e3, e5, e4, e6, f1.1, f2.1, f5, f6, ⟨_, E4, G1⟩, rnd_p2 q5 b5, rnd_p2 q6 b6⟩

theorem abs_same (b : Nat) (w : World) (h : b < 2 ^ 64) : Calls Try.prog 74 #[.float .f64 b] w fun e w' => e = .returned (.float .f64 (ab b)) ∧ w' = w := abs_walk b w h

set_option maxHeartbeats 800000 in
theorem roughTerm_any {A B C D X Y : Int} {ux uy us vx vy vs wx wy ws : Nat × Int} (w : World) (hu : RRow X Y ux uy us) (hv : RRow A B vx vy vs) (hw : RRow C D wx wy ws) :
    Calls Try.prog 80 #[.agg #[.float .f64 ux.1, .float .f64 uy.1, .float .f64 us.1], .agg #[.float .f64 vx.1, .float .f64 vy.1, .float .f64 vs.1], .agg #[.float .f64 wx.1, .float .f64 wy.1, .float .f64 ws.1]] w fun e w' =>
      ∃ val size : Nat × Int, e = .returned (.tuple #[.float .f64 val.1, .float .f64 size.1]) ∧ Hid (New w w' ∧ RTerm ((X * X + Y * Y) * (A * D - B * C)) val size) := by
  obtain ⟨l, r, d, t, val, size, e1, e2, e3, e4, e5, e6, hl, hr, ht⟩ := rterm_words hu hv hw
  have HT : Hid (RTerm ((X * X + Y * Y) * (A * D - B * C)) val size) := ht
  have g1 := fmul e1 81
  have g2 := fmul e2 81
  have g3 := fsub e3 81
  have g4 := fmul e4 81
  have g5 := fadd e5 81
  have g6 := fmul e6 81
  clear e1 e2 e3 e4 e5 e6 ht hu hv hw
  go_enter Try.func80, Try.ntmps80
  go_wp2_with fail
  go_quiet (fail)
  go_wp2_with fail
  generalize hV : ((((w.alloc (.cells #[.float .f64 ux.1, .float .f64 uy.1, .float .f64 us.1] 93)).alloc (.cells #[.float .f64 vx.1, .float .f64 vy.1, .float .f64 vs.1] 93)).alloc (.cells #[.float .f64 wx.1, .float .f64 wy.1, .float .f64 ws.1] 93)).drewN nq) = V
  have hc : V.cell? ⟨w.heap.size, 2, none⟩ = some (.float .f64 us.1) := by subst hV; go_simp
  have HN : Hid (New w V) := by rw [← hV]; exact (((New.alloc _ _).alloc' _).alloc' _).drewN _
  clear hV
  go_quiet (first | (go_at_call 74; exact Calls.quiet_of_same (abs_same l _ hl)) | (go_at_call 74; exact Calls.quiet_of_same (abs_same r _ hr)))
  go_wp2_with fail
  go_ret2
  refine ⟨val, size, rfl, ?_, HT.out⟩
  exact HN.out.drewN _

end Go.Proofs.Ytgeoffpcmkofkaa
/- The walks of package side: 'newExactRow', 'exactTerm'. -/
namespace Go.Proofs.Ytgeoffpcmkofkaa
open Go.RowKit Fl
set_option maxRecDepth 100000

/-- A row of the determinant, not rounded, in memory. -/
structure ERow (w : World) (X Y : Int) (g1 g2 g3 c3 : Nat) (x y s : Ws) : Prop where
  nx : Nm w g1 2 x X 55 2
  ny : Nm w g2 2 y Y 55 2
  ns : Nm w g3 c3 s (X * X + Y * Y) 113 16

theorem ERow.kept {w w' : World} {X Y : Int} {g1 g2 g3 c3 : Nat} {x y s : Ws} (h : ERow w X Y g1 g2 g3 c3 x y s) (hn : New w w') : ERow w' X Y g1 g2 g3 c3 x y s :=
  ⟨h.nx.kept hn, h.ny.kept hn, h.ns.kept hn⟩

/-- A block that is written lies apart from an expansion. -/
theorem Lst.set3 {w : World} {g cap b : Nat} {ws : Ws} (h : Lst w g cap ws) (hb : g ≠ b) (x y z : Value) : Lst (((w.setCell ⟨b, 0, none⟩ x).setCell ⟨b, 1, none⟩ y).setCell ⟨b, 2, none⟩ z) g cap ws := by
  obtain ⟨cur, h1, h2⟩ := h.row
  refine ⟨⟨cur, ?_, h2⟩, h.words, h.ex, h.small⟩
  rw [heap_setCell_other _ ⟨b, 2, none⟩ g z hb, heap_setCell_other _ ⟨b, 1, none⟩ g y hb, heap_setCell_other _ ⟨b, 0, none⟩ g x hb]
  exact h1

theorem Nm.set3 {w : World} {g cap b : Nat} {ws : Ws} {v : Int} {m n : Nat} (h : Nm w g cap ws v m n) (hb : g ≠ b) (x y z : Value) : Nm (((w.setCell ⟨b, 0, none⟩ x).setCell ⟨b, 1, none⟩ y).setCell ⟨b, 2, none⟩ z) g cap ws v m n :=
  ⟨h.lst.set3 hb x y z, h.tot, h.mass, h.len⟩

/-- The block of an expansion is none of another type. -/
theorem Lst.ne_block {w : World} {g cap b : Nat} {ws : Ws} {cs : Array Value} {t : TypeId} (h : Lst w g cap ws) (hb : w.heap[b]? = some (.cells cs t (0, 0))) (ht : t ≠ 81) : g ≠ b := by
  rintro rfl
  obtain ⟨cur, h1, _⟩ := h.row
  rw [hb] at h1
  simp at h1
  exact ht h1.2

set_option maxHeartbeats 800000 in
theorem newExactRow_any (px py dx dy : Int) (w : World) (h1 : Cd px) (h2 : Cd py) (h3 : Cd dx) (h4 : Cd dy) :
    Calls Try.prog 81 #[.agg #[.int .i64 px, .int .i64 py], .agg #[.int .i64 dx, .int .i64 dy]] w fun e w' =>
      ∃ (g1 g2 g3 c3 : Nat) (x y s : Ws), e = .returned (.agg #[.slice (some ⟨g1, 0, none⟩) x.length 2, .slice (some ⟨g2, 0, none⟩) y.length 2, .slice (some ⟨g3, 0, none⟩) s.length c3]) ∧ Hid (New w w' ∧ ERow w' (px - dx) (py - dy) g1 g2 g3 c3 x y s) := by
  go_enter Try.func81, Try.ntmps81
  go_wp2_with fail
  refine (exactApart_any px py dx dy _ h1 h2 h3 h4).mono ?_
  rintro e w1 ⟨g1, g2, x, y, rfl, H1⟩
  go_wp2_with fail
  refine (times_nm H1.out.1 H1.out.1 (by omega) (by omega) (by omega)).mono ?_
  rintro e w2 ⟨g3, c3, p, rfl, H2⟩
  go_wp2_with fail
  refine (times_nm (H1.out.2.1.kept H2.out.2.2) (H1.out.2.1.kept H2.out.2.2) (by omega) (by omega) (by omega)).mono ?_
  rintro e w3 ⟨g4, c4, q, rfl, H3⟩
  go_wp2_with fail
  refine (plus_nm (H2.out.1.kept H3.out.2.2) H3.out.1 (by omega) (by omega) (by omega)).mono ?_
  rintro e w4 ⟨g5, c5, s, rfl, H4⟩
  have HN : Hid (New (((w.alloc (.cells #[.int .i64 px, .int .i64 py] 23)).alloc (.cells #[.int .i64 dx, .int .i64 dy] 23)).alloc (.cells #[.slice none 0 0, .slice none 0 0, .slice none 0 0] 97)) w4) := ((H1.out.2.2.2.2.trans' H2.out.2.2).trans' H3.out.2.2).trans' H4.out.2.2
  have hR : w4.heap[w.heap.size + 1 + 1]? = some (.cells #[.slice none 0 0, .slice none 0 0, .slice none 0 0] 97 (0, 0)) := by
    rw [HN.out.block _ (by simp) (by simp)]
    have := _root_.Go.heap_alloc_new ((w.alloc (.cells #[.int .i64 px, .int .i64 py] 23)).alloc (.cells #[.int .i64 dx, .int .i64 dy] 23)) (.cells #[.slice none 0 0, .slice none 0 0, .slice none 0 0] 97)
    simpa using this
  have HR : Hid (w4.heap[w.heap.size + 1 + 1]? = some (.cells #[.slice none 0 0, .slice none 0 0, .slice none 0 0] 97 (0, 0))) := hR
  have q0 : w4.cell? ⟨w.heap.size + 1 + 1, 0, none⟩ = some (.slice none 0 0) := by simp [World.cell?, hR]
  have q1 : w4.cell? ⟨w.heap.size + 1 + 1, 1, none⟩ = some (.slice none 0 0) := by simp [World.cell?, hR]
  have q2 : w4.cell? ⟨w.heap.size + 1 + 1, 2, none⟩ = some (.slice none 0 0) := by simp [World.cell?, hR]
  have f0 : w4.frozen? ⟨w.heap.size + 1 + 1, 0, none⟩ = false := by simp [World.frozen?, hR]
  have f1 : w4.frozen? ⟨w.heap.size + 1 + 1, 1, none⟩ = false := by simp [World.frozen?, hR]
  have f2 : w4.frozen? ⟨w.heap.size + 1 + 1, 2, none⟩ = false := by simp [World.frozen?, hR]
  clear hR
  go_wp2_with fail
  refine bodyPost_ret (v := .agg #[.slice (some ⟨g1, 0, none⟩) x.length 2, .slice (some ⟨g2, 0, none⟩) y.length 2, .slice (some ⟨g5, 0, none⟩) s.length c5]) (by simp [results, Try.results81, go_sem, q0, q1, q2]) rfl ?_
  have kx := ((H1.out.1.kept H2.out.2.2).kept H3.out.2.2).kept H4.out.2.2
  have ky := ((H1.out.2.1.kept H2.out.2.2).kept H3.out.2.2).kept H4.out.2.2
  refine ⟨g1, g2, g5, c5, x, y, s, rfl, ?_, kx.set3 (kx.lst.ne_block HR.out (by decide)) _ _ _, ky.set3 (ky.lst.ne_block HR.out (by decide)) _ _ _, H4.out.1.set3 (H4.out.1.lst.ne_block HR.out (by decide)) _ _ _⟩
  exact Below.new' ((((New.below' ((((New.alloc w _).alloc' _).alloc' _).trans' HN.out)).setCell (p := ⟨w.heap.size + 1 + 1, 0, none⟩) (by simp <;> omega) _).setCell (p := ⟨w.heap.size + 1 + 1, 1, none⟩) (by simp <;> omega) _).setCell (p := ⟨w.heap.size + 1 + 1, 2, none⟩) (by simp <;> omega) _)

theorem five_keep {W w' : World} {g : Nat} {p q r s t : Value} (hn : New W w') (hs : g + 1 + 1 < W.heap.size ∧ W.cell? ⟨g, 2, none⟩ = some p ∧ W.cell? ⟨g + 1, 0, none⟩ = some q ∧ W.cell? ⟨g + 1, 1, none⟩ = some r ∧ W.cell? ⟨g + 1 + 1, 0, none⟩ = some s ∧ W.cell? ⟨g + 1 + 1, 1, none⟩ = some t) :
    g + 1 + 1 < w'.heap.size ∧ w'.cell? ⟨g, 2, none⟩ = some p ∧ w'.cell? ⟨g + 1, 0, none⟩ = some q ∧ w'.cell? ⟨g + 1, 1, none⟩ = some r ∧ w'.cell? ⟨g + 1 + 1, 0, none⟩ = some s ∧ w'.cell? ⟨g + 1 + 1, 1, none⟩ = some t := by
  obtain ⟨h0, h1, h2, h3, h4, h5⟩ := hs
  have := hn.size
  refine ⟨by omega, ?_, ?_, ?_, ?_, ?_⟩
  all_goals (rw [hn.rule _ _ (by omega)]; assumption)

set_option maxHeartbeats 1600000 in
theorem exactTerm_any {A B C D X Y : Int} {ux uy us cs vx vy vs dv wx wy ws ew : Nat} {k l s p q t m n o : Ws} (w : World) (hu : ERow w X Y ux uy us cs k l s) (hv : ERow w A B vx vy vs dv p q t) (hw : ERow w C D wx wy ws ew m n o) :
    Calls Try.prog 82 #[.agg #[.slice (some ⟨ux, 0, none⟩) k.length 2, .slice (some ⟨uy, 0, none⟩) l.length 2, .slice (some ⟨us, 0, none⟩) s.length cs], .agg #[.slice (some ⟨vx, 0, none⟩) p.length 2, .slice (some ⟨vy, 0, none⟩) q.length 2, .slice (some ⟨vs, 0, none⟩) t.length dv], .agg #[.slice (some ⟨wx, 0, none⟩) m.length 2, .slice (some ⟨wy, 0, none⟩) n.length 2, .slice (some ⟨ws, 0, none⟩) o.length ew]] w fun e w' =>
      ∃ (g c : Nat) (z : Ws), e = .returned (.slice (some ⟨g, 0, none⟩) z.length c) ∧ Hid (New w w' ∧ Nm w' g c z ((X * X + Y * Y) * (A * D - B * C)) 227 512) := by
  obtain ⟨W, hW⟩ : ∃ W, W = ((w.alloc (.cells #[.slice (some ⟨ux, 0, none⟩) k.length 2, .slice (some ⟨uy, 0, none⟩) l.length 2, .slice (some ⟨us, 0, none⟩) s.length cs] 97)).alloc (.cells #[.slice (some ⟨vx, 0, none⟩) p.length 2, .slice (some ⟨vy, 0, none⟩) q.length 2, .slice (some ⟨vs, 0, none⟩) t.length dv] 97)).alloc (.cells #[.slice (some ⟨wx, 0, none⟩) m.length 2, .slice (some ⟨wy, 0, none⟩) n.length 2, .slice (some ⟨ws, 0, none⟩) o.length ew] 97) := ⟨_, rfl⟩
  have HW : Hid (New w W.drew) := by rw [hW]; exact (((New.alloc _ _).alloc' _).alloc' _).drewN 1
  have hS : w.heap.size + 1 + 1 < W.heap.size ∧ W.cell? ⟨w.heap.size, 2, none⟩ = some (.slice (some ⟨us, 0, none⟩) s.length cs) ∧ W.cell? ⟨w.heap.size + 1, 0, none⟩ = some (.slice (some ⟨vx, 0, none⟩) p.length 2) ∧ W.cell? ⟨w.heap.size + 1, 1, none⟩ = some (.slice (some ⟨vy, 0, none⟩) q.length 2) ∧ W.cell? ⟨w.heap.size + 1 + 1, 0, none⟩ = some (.slice (some ⟨wx, 0, none⟩) m.length 2) ∧ W.cell? ⟨w.heap.size + 1 + 1, 1, none⟩ = some (.slice (some ⟨wy, 0, none⟩) n.length 2) := by
    rw [hW]
    refine ⟨by simp, ?_, ?_, ?_, ?_, ?_⟩ <;> go_simp
  go_enter Try.func82, Try.ntmps82
  go_wp2_with fail
  rw [← hW]
  clear hW
  go_region_held3 (fun w' => w.heap.size + 1 + 1 < w'.heap.size ∧ w'.cell? ⟨w.heap.size, 2, none⟩ = some (.slice (some ⟨us, 0, none⟩) s.length cs) ∧ w'.cell? ⟨w.heap.size + 1, 0, none⟩ = some (.slice (some ⟨vx, 0, none⟩) p.length 2) ∧ w'.cell? ⟨w.heap.size + 1, 1, none⟩ = some (.slice (some ⟨vy, 0, none⟩) q.length 2) ∧ w'.cell? ⟨w.heap.size + 1 + 1, 0, none⟩ = some (.slice (some ⟨wx, 0, none⟩) m.length 2) ∧ w'.cell? ⟨w.heap.size + 1 + 1, 1, none⟩ = some (.slice (some ⟨wy, 0, none⟩) n.length 2))
    (first | exact hS | exact five_keep H4.out.2.2 (by assumption) | exact five_keep H3.out.2.2 (by assumption) | exact five_keep H2.out.2.2 (by assumption) | exact five_keep H1.out.2.2 (by assumption) | go_keep)
    (first
      | (go_at_call_of 76 vx; refine (times_nm (hv.nx.kept HW.out) (hw.ny.kept HW.out) (by omega) (by omega) (by omega)).mono ?_; rintro e w1 ⟨g1, c1, z1, rfl, H1⟩)
      | (go_at_call_of 76 vy; refine (times_nm ((hv.ny.kept HW.out).kept H1.out.2.2) ((hw.nx.kept HW.out).kept H1.out.2.2) (by omega) (by omega) (by omega)).mono ?_; rintro e w2 ⟨g2, c2, z2, rfl, H2⟩)
      | (go_at_call 77; refine (minus_nm (H1.out.1.kept H2.out.2.2) H2.out.1 (by omega) (by omega) (by omega)).mono ?_; rintro e w3 ⟨g3, c3, z3, rfl, H3⟩)
      | (go_at_call_of 76 us; refine (times_nm ((((hu.ns.kept HW.out).kept H1.out.2.2).kept H2.out.2.2).kept H3.out.2.2) H3.out.1 (by omega) (by omega) (by omega)).mono ?_; rintro e w4 ⟨g4, c4, z4, rfl, H4⟩))
  go_wp2_with fail
  go_ret
  exact ⟨g4, c4, z4, rfl, (((HW.out.trans' H1.out.2.2).trans' H2.out.2.2).trans' H3.out.2.2).trans' H4.out.2.2, H4.out.1⟩

end Go.Proofs.Ytgeoffpcmkofkaa
/- A region that draws its order, by an invariant: each operation that may come up keeps it. -/
namespace Go.Proofs.Ytgeoffpcmkofkaa
open Go.RowKit
set_option maxRecDepth 100000

section
variable {P : Program} {ops : Array Oper} {Q : Exit → Act → World → Prop} {md : Region.Mode}

/-- An operation may come up: it has not, and what it waits for has. -/
structure Rdy (md : Region.Mode) (listed : Array Bool) (i : Nat) (o : Oper) : Prop where
  mine : listed.getD i true = false
  ahead : ∀ e ∈ o.after, Region.binds md e = true → listed.getD e.on false = true

theorem ready_iff {listed : Array Bool} {i : Nat} (h : i ∈ Region.ready md ops listed) : ∃ o, ops[i]? = some o ∧ i < ops.size ∧ Rdy md listed i o := by
  unfold Region.ready at h
  rw [List.mem_filter] at h
  obtain ⟨h1, h2⟩ := h
  have hi : i < ops.size := by simpa using h1
  rw [Bool.and_eq_true] at h2
  refine ⟨ops[i], Array.getElem?_eq_getElem hi, hi, by simpa using h2.1, ?_⟩
  have h3 := h2.2
  rw [Array.getElem?_eq_getElem hi] at h3
  simp only [Option.map_some, Option.getD_some] at h3
  rw [Array.all_eq_true_iff_forall_mem] at h3
  intro e he hb
  have := h3 e he
  rw [hb] at this
  simpa using this

theorem ready_of {listed : Array Bool} {i : Nat} {o : Oper} (ho : ops[i]? = some o) (h : Rdy md listed i o) : i ∈ Region.ready md ops listed := by
  unfold Region.ready
  rw [List.mem_filter]
  have hi : i < ops.size := (Array.getElem?_eq_some_iff.1 ho).1
  refine ⟨by simpa using hi, ?_⟩
  rw [Bool.and_eq_true, ho]
  refine ⟨by simp [h.mine], ?_⟩
  simp only [Option.map_some, Option.getD_some]
  rw [Array.all_eq_true_iff_forall_mem]
  intro e he
  by_cases hb : Region.binds md e = true
  · rw [h.ahead e he hb]; simp
  · simp [Bool.eq_false_iff.2 hb]

theorem count_set_true : ∀ (l : List Bool) (i : Nat) (h : i < l.length), l[i] = false → l.count false = (l.set i true).count false + 1
  | [], i, h, _ => absurd h (by simp)
  | x :: l, 0, _, hx => by
    have hx' : x = false := hx
    subst hx'
    simp
  | x :: l, i + 1, h, hx => by
    have := count_set_true l i (by simpa using h) hx
    simp only [List.set_cons_succ, List.count_cons, this]
    omega

def left (listed : Array Bool) : Nat := listed.toList.count false

theorem left_set {listed : Array Bool} {i : Nat} (h : listed.getD i true = false) : left listed = left (listed.setIfInBounds i true) + 1 := by
  have hi : i < listed.size := by
    rcases Nat.lt_or_ge i listed.size with h1 | h1
    · exact h1
    · simp [Array.getD, Nat.not_lt.2 h1] at h
  have hv : listed.toList[i]'(by simpa using hi) = false := by simpa [Array.getD, hi] using h
  unfold left
  rw [Array.toList_setIfInBounds]
  exact count_set_true _ i (by simpa using hi) hv

/-- All have come up where none may. -/
theorem all_listed {listed : Array Bool} (hs : listed.size = ops.size) (hac : ∀ (i : Nat) (o : Oper), ops[i]? = some o → ∀ e ∈ o.after, Region.binds md e = true → e.on < i) (h : Region.ready md ops listed = []) : ∀ i, i < ops.size → listed.getD i false = true := by
  intro i
  induction i using Nat.strongRecOn with
  | _ i ih =>
    intro hi
    rcases Bool.eq_false_or_eq_true (listed.getD i false) with h1 | h1
    · exact h1
    · exfalso
      have hm : listed.getD i true = false := by simpa [Array.getD, hs, hi] using h1
      have : i ∈ Region.ready md ops listed := ready_of (Array.getElem?_eq_getElem hi) ⟨hm, fun e he hb => ih e.on (hac i _ (Array.getElem?_eq_getElem hi) e he hb) (Nat.lt_trans (hac i _ (Array.getElem?_eq_getElem hi) e he hb) hi)⟩
      rw [h] at this
      simp at this

theorem wpAny_inv (I : Array Bool → Act → World → Prop) (hac : ∀ (i : Nat) (o : Oper), ops[i]? = some o → ∀ e ∈ o.after, Region.binds md e = true → e.on < i) (hg : ∀ (i : Nat) (o : Oper), ops[i]? = some o → o.guard = none)
    (step : ∀ listed a w i o, I listed a w → ops[i]? = some o → Rdy md listed i o → o.wp P a w (fun a' w' => I (listed.setIfInBounds i true) a' w') Q)
    (fin : ∀ listed a w, I listed a w → (∀ i, i < ops.size → listed.getD i false = true) → Q .normal a w) :
    ∀ fuel listed a w, listed.size = ops.size → left listed = fuel → I listed a w → wpAny P md ops Q fuel listed a w := by
  intro fuel
  induction fuel with
  | zero =>
    intro listed a w hs hl hI
    have hr : Region.ready md ops listed = [] := by
      rw [List.eq_nil_iff_forall_not_mem]
      intro i hi
      obtain ⟨o, ho, hlt, hrd⟩ := ready_iff hi
      have := left_set hrd.mine
      omega
    exact ⟨hr, fin listed a w hI (all_listed hs hac hr)⟩
  | succ fuel ih =>
    intro listed a w hs hl hI
    refine ⟨fun hr => fin listed a w hI (all_listed hs hac hr), fun i hi => ?_⟩
    obtain ⟨o, ho, hlt, hrd⟩ := ready_iff hi
    have hwant : Region.wanted o (yielded ops a.tmps) = true := by simp [Region.wanted, hg i o ho]
    unfold wpOp
    rw [ho]
    simp only [hwant, if_true]
    left
    refine Oper.wp_mono (fun a' w' h => ?_) (step listed a w i o hI ho hrd)
    exact ih _ a' w' (by simpa using hs) (by have := left_set hrd.mine; omega) h

/-- A region that draws, by an invariant. -/
theorem wp_region_inv {id : Nat} {a : Act} {w : World} (hm : P.follows .mixedOrders = true) (I : Array Bool → Act → World → Prop) (hac : ∀ (i : Nat) (o : Oper), ops[i]? = some o → ∀ e ∈ o.after, Region.binds .any e = true → e.on < i) (hg : ∀ (i : Nat) (o : Oper), ops[i]? = some o → o.guard = none)
    (start : I (Array.replicate ops.size false) a w.drew)
    (step : ∀ listed a w i o, I listed a w → ops[i]? = some o → Rdy .any listed i o → o.wp P a w (fun a' w' => I (listed.setIfInBounds i true) a' w') Q)
    (fin : ∀ listed a w, I listed a w → (∀ i, i < ops.size → listed.getD i false = true) → Q .normal a w) : (Code.region id ops true).wp P Q a w :=
  wp_region_any hm (wpAny_inv I hac hg step fin _ _ a _ (by simp) (by simp [left]) start)
end

end Go.Proofs.Ytgeoffpcmkofkaa
/- Points as cells. -/
namespace Go.Proofs.Ytgeoffpcmkofkaa
open Go.RowKit Fl
set_option maxRecDepth 100000

theorem Try.info23 : (Try.prog.info? 23).map (fun i => (i.zero, i.size, i.bytes)) = some (some (.agg #[.int .i64 0, .int .i64 0]), 2, 16) := by kernel_rfl

/-- Points as cells. -/
def flatP : Pts → List Value
  | [] => []
  | p :: l => .int .i64 p.1 :: .int .i64 p.2 :: flatP l
theorem flatP_append (a b : Pts) : flatP (a ++ b) = flatP a ++ flatP b := by
  induction a with
  | nil => rfl
  | cons p l ih => simp [flatP, ih]

/-- Its numbers are numbers of 64 bits. -/
def In64 (l : Pts) : Prop := ∀ p ∈ l, (-9223372036854775808 ≤ p.1 ∧ p.1 < 9223372036854775808) ∧ (-9223372036854775808 ≤ p.2 ∧ p.2 < 9223372036854775808)

theorem own_ne {W : World} {base e size n : Nat} {v : Value} {xs : List Value} (h : W.ownsRow base e size v n xs) {g : Nat} (hg : g < base) : some g ≠ v.ownBlock := by
  rcases h.2 with ⟨rfl, _⟩ | ⟨g', cap, cur, rfl, hb, _⟩
  · simp [Value.ownBlock]
  · simp [Value.ownBlock]; omega

theorem New.drew1 {w w1 : World} (h : New w w1) : New w w1.drew := ⟨h.os, h.tape, h.output, h.size, h.block⟩
end Go.Proofs.Ytgeoffpcmkofkaa
/- The walk of plumbref's 'Add', signs unlike. -/
namespace Go.Proofs.Ytgeoffpcmkofkaa
open Go.RowKit Fl Dg
set_option maxRecDepth 100000

theorem trim_same (v : Value) (ds : List Int) (w : World) (h : Dl w v ds) : Calls Try.prog 59 #[v] w fun e w' => ∃ (ao : Option Addr) (c : Nat) (ds' : List Int), e = .returned (.slice ao ds'.length c) ∧ w = w' ∧ Hid (Dl w (.slice ao ds'.length c) ds' ∧ dv ds' = dv ds ∧ Tr ds' ∧ ds'.length ≤ ds.length ∧ (Value.slice ao ds'.length c).ownBlock = v.ownBlock) := by
  refine (trim_any v ds w h).mono ?_
  rintro e w' ⟨v', ds', rfl, rfl, H⟩
  obtain ⟨ao, n, c, rfl, rfl⟩ := slice_val H.out.1
  exact ⟨ao, c, ds', rfl, rfl, H.out⟩

/-- The answer is laid into the block R: digits that lie anywhere but there. -/
theorem Gat.answer' {w W wr : World} {v v' : Value} {ds ds' : List Int} (h : Gat W wr v ds) (hn : New w W) {R : Nat} (h1 : w.heap.size ≤ R) {neg : Bool} {x : Int} {L : Nat} (hd : Dl wr v' ds') (hR : v'.ownBlock ≠ some R) (ht : Tr ds') (hx : x = nv neg ds') (hL : ds'.length ≤ L) :
    NuRet w x L (.returned (.agg #[.bool neg, v'])) ((wr.setCell ⟨R, 0, none⟩ (.bool neg)).setCell ⟨R, 1, none⟩ v') := by
  have hnw : New w wr := hn.trans' h.new
  have hb : Below w.heap.size w wr := ⟨hnw.os, hnw.tape, hnw.output, hnw.size, fun k hk => hnw.block k hk (by simp)⟩
  have hb2 := (hb.setCell (p := ⟨R, 0, none⟩) h1 (.bool neg)).setCell (p := ⟨R, 1, none⟩) h1 v'
  have o1 := ownsRow_setCell_other (ownsRow_setCell_other hd.own (a := ⟨R, 0, none⟩) hR (.bool neg)) (a := ⟨R, 1, none⟩) hR v'
  exact NuRet.mk ⟨⟨neg, v', ds', rfl, ⟨o1, hd.ok, hd.few⟩, ht, hx, hL⟩⟩ (Below.new hb2)

/-- The memory where the loop of differences begins: X, the greater, in the first box, Y in the second. -/
structure SubB (w V : World) (neg : Bool) (vx vy : Value) (X Y : List Int) : Prop where
  new : New w V
  size : w.heap.size + 3 ≤ V.heap.size
  x0 : V.cell? ⟨w.heap.size, 0, none⟩ = some (.bool neg)
  x1 : V.cell? ⟨w.heap.size, 1, none⟩ = some vx
  y1 : V.cell? ⟨w.heap.size + 1, 1, none⟩ = some vy
  r0 : V.cell? ⟨w.heap.size + 1 + 1, 0, none⟩ = some (.bool false)
  r1 : V.cell? ⟨w.heap.size + 1 + 1, 1, none⟩ = some (.slice none 0 0)
  rf : ∀ o, V.frozen? ⟨w.heap.size + 1 + 1, o, none⟩ = false
  dx : Dl V vx X
  dy : Dl V vy Y
  le : dv Y ≤ dv X

/-- What holds in a round. -/
structure SubR (w V wr : World) (neg : Bool) (vx vy v : Value) (X Y ds : List Int) (k : Nat) (cv : Int) : Prop where
  base : SubB w V neg vx vy X Y
  inv : SubI X Y k ds cv
  gat : Gat V wr v ds

theorem SubR.cells {w V wr : World} {neg : Bool} {vx vy v : Value} {X Y ds : List Int} {k : Nat} {cv : Int} (h : SubR w V wr neg vx vy v X Y ds k cv) :
    wr.cell? ⟨w.heap.size, 1, none⟩ = some vx ∧ wr.cell? ⟨w.heap.size + 1, 1, none⟩ = some vy ∧ wr.cell? ⟨w.heap.size, 0, none⟩ = some (.bool neg) := by
  have hs := h.base.size
  refine ⟨?_, ?_, ?_⟩
  · rw [h.gat.new.rule _ _ (by omega)]; exact h.base.x1
  · rw [h.gat.new.rule _ _ (by omega)]; exact h.base.y1
  · rw [h.gat.new.rule _ _ (by omega)]; exact h.base.x0

theorem SubR.digits {w V wr : World} {neg : Bool} {vx vy v : Value} {X Y ds : List Int} {k : Nat} {cv : Int} (h : SubR w V wr neg vx vy v X Y ds k cv) (n : Nat) : Dl (wr.drewN n) vx X ∧ Dl (wr.drewN n) vy Y :=
  ⟨h.base.dx.kept (h.gat.new.drewN n), h.base.dy.kept (h.gat.new.drewN n)⟩

theorem SubR.next {w V wr w1 : World} {neg : Bool} {vx vy v v' : Value} {X Y ds : List Int} {k n : Nat} {cv s t c' : Int} {o : Obj} (h : SubR w V wr neg vx vy v X Y ds k cv) (hs : s = dg X k - dg Y k - cv) (ht : (s < 0 ∧ t = s + 1048576 ∧ c' = 1) ∨ (0 ≤ s ∧ t = s ∧ c' = 0))
    (g : ((wr.drewN n).alloc o).grownBy w1 v.ownBlock) (hown : w1.ownsRow V.heap.size 3 1 v' (ds.length + 1) (ds.map (Value.int .i64) ++ [.int .i64 t])) : SubR w V w1 neg vx vy v' X Y (ds ++ [t]) (k + 1) c' :=
  ⟨h.base, h.inv.next h.base.dx.ok h.base.dy.ok hs ht, (h.gat.drewN n).next g hown⟩

theorem keep2 {w : World} {R b o : Nat} {v x y : Value} (h : w.cell? ⟨b, o, none⟩ = some v) (hb : b < R) : ((w.setCell ⟨R, 0, none⟩ x).setCell ⟨R, 1, none⟩ y).drew.cell? ⟨b, o, none⟩ = some v := by
  have e : ((w.setCell ⟨R, 0, none⟩ x).setCell ⟨R, 1, none⟩ y).drew.cell? ⟨b, o, none⟩ = w.cell? ⟨b, o, none⟩ :=
    World.cell?_of_block (a := ⟨b, o, none⟩) ((heap_setCell_other _ ⟨R, 1, none⟩ b y (by simp; omega)).trans (heap_setCell_other w ⟨R, 0, none⟩ b x (by simp; omega)))
  rw [e]; exact h

theorem nv_sub (neg : Bool) (X Y d : List Int) (h : dv d = dv X - dv Y) : nv neg d = nv neg X + nv (!neg) Y := by
  cases neg <;> simp only [nv, h] <;> simp <;> omega

set_option maxHeartbeats 3200000 in
theorem add_unlike (neg : Bool) (ao1 ao2 : Option Addr) (c1 c2 : Nat) (a b : List Int) (L : Nat) (w : World) (ha : Dl w (.slice ao1 a.length c1) a) (hb : Dl w (.slice ao2 b.length c2) b) (ta : Tr a) (tb : Tr b) (la : a.length ≤ L) (_lb : b.length ≤ L) (hL : L ≤ 900) (hle : gtB b a = false) :
    Calls Try.prog 41 #[.agg #[.bool neg, .slice ao1 a.length c1], .agg #[.bool !neg, .slice ao2 b.length c2]] w fun e w' => NuRet w (nv neg a + nv (!neg) b) (L + 1) e w' := by
  obtain ⟨i0, hi, hz0, hz1, hz2⟩ := info_parts Try.info3
  have hbb : (neg == !neg) = false := by cases neg <;> rfl
  have HLE : Hid (gtB b a = false) := hle
  go_enter Try.func41, Try.ntmps41
  go_wp2_with fail
  refine (greater_any _ _ b a _ (hb.kept (((New.alloc _ _).alloc' _).alloc' _)) (ha.kept (((New.alloc _ _).alloc' _).alloc' _)) tb ta).mono ?_
  rintro e w1 ⟨rfl, H1⟩
  have HB : Hid (SubB w w1 neg (.slice ao1 a.length c1) (.slice ao2 b.length c2) a b) := by
    have hN := (((New.alloc w _).alloc' _).alloc' _).trans' H1.out
    have hr := H1.out.rule
    have hfr := H1.out.frule
    refine ⟨hN, by have := H1.out.size; simp at this; omega, ?_, ?_, ?_, ?_, ?_, ?_, ha.kept hN, hb.kept hN, by have := of_decide_eq_false HLE.out; omega⟩
    all_goals first | (intro o; rw [hfr _ _ (by simp <;> omega)]; go_simp) | (rw [hr _ _ (by simp <;> omega)]; go_simp)
  clear hle
  have hle := HLE.out
  go_wp2_with fail
  go_loopw [10, 11, 12] (fun d c i wr => ∃ (k : Nat) (cv : Int) (v : Value) (ds : List Int), i = .int .i64 k ∧ c = .int .i64 cv ∧ d = v ∧ 0 ≤ cv ∧ cv ≤ 1 ∧ k ≤ a.length ∧ Hid (SubR w w1 wr neg (.slice ao1 a.length c1) (.slice ao2 b.length c2) v a b ds k cv))
    (fun _ _ i _ => a.length - (intOf i).toNat)
  case atStart => exact ⟨0, 0, _, [], rfl, rfl, rfl, by omega, by omega, by omega, HB.out, SubI.start a b, World.ownsRow_nil _ _ _ _, New.refl w1⟩
  case round =>
    obtain ⟨k, cv, v, ds, rfl, rfl, rfl, hc0, hc1, hk, H⟩ := hrel
    obtain ⟨ao, c, hv⟩ := own_shape H.out.gat.own
    subst hv
    have hlen : ds.length ≤ L := by have := H.out.inv.len; omega
    have qa1 := H.out.cells.1
    have qb1 := H.out.cells.2.1
    by_cases g1 : k < a.length
    · have HDr : Hid (∀ n, Dl (wr.drewN n) (.slice ao1 a.length c1) a ∧ Dl (wr.drewN n) (.slice ao2 b.length c2) b) := H.out.digits
      have ba0 := (dg_ok H.out.base.dx.ok k).1
      have ba1 := (dg_ok H.out.base.dx.ok k).2
      have bb0 := (dg_ok H.out.base.dy.ok k).1
      have bb1 := (dg_ok H.out.base.dy.ok k).2
      by_cases hs : dg a k - dg b k - cv < 0
      · skip
        go_wp2_with fail
        go_quiet (first | (go_at_call 58; exact Calls.quiet_of_same (digit_same _ a k _ (HDr.out _).1 (by omega))) | (go_at_call 58; exact Calls.quiet_of_same (digit_same _ b k _ (HDr.out _).2 (by omega))))
        go_wp2_with (at_builtin; refine wpList_append_own _ rfl _ _ 46 rfl w1.heap.size 3 i0 (.int .i64 0) 1 8 Try.underlying46 hi hz0 hz1 hz2 rfl (by decide) _ _ _ rfl ((H.out.gat.drewN nq).own.alloc _) ⟨wr.heap.size, 0, none⟩ 1 1 [.int .i64 (dg a k - dg b k - cv + 1048576)] rfl rfl (cell_one_new _ _ _) ?c2 ?c3 ?c4 ?c5 ?_)
        case c2 => intro u hu; rw [List.mem_singleton.1 hu]; rfl
        case c3 => unfold maxLen; omega
        case c4 => omega
        case c5 => have := H.out.gat.new.size; simp; omega
        intro v' w2 hown1 hgrow1 hnil
        have HN : Hid (SubR w w1 w2 neg (.slice ao1 a.length c1) (.slice ao2 b.length c2) v' a b (ds ++ [dg a k - dg b k - cv + 1048576]) (k + 1) 1) := H.out.next rfl (Or.inl ⟨by omega, rfl, rfl⟩) hgrow1 hown1
        obtain ⟨g', cap', rfl, _⟩ := own_form hown1 (by omega)
        clear hown1 hgrow1 hnil qa1 qb1
        go_wp2_with fail
        go_roundw
        case rel => exact ⟨k + 1, _, _, _, by go_num, rfl, rfl, by omega, by omega, by omega, HN.out⟩
        case measure => simp [intOf]; omega
      · skip
        go_wp2_with fail
        go_quiet (first | (go_at_call 58; exact Calls.quiet_of_same (digit_same _ a k _ (HDr.out _).1 (by omega))) | (go_at_call 58; exact Calls.quiet_of_same (digit_same _ b k _ (HDr.out _).2 (by omega))))
        go_wp2_with (at_builtin; refine wpList_append_own _ rfl _ _ 46 rfl w1.heap.size 3 i0 (.int .i64 0) 1 8 Try.underlying46 hi hz0 hz1 hz2 rfl (by decide) _ _ _ rfl ((H.out.gat.drewN nq).own.alloc _) ⟨wr.heap.size, 0, none⟩ 1 1 [.int .i64 (dg a k - dg b k - cv)] rfl rfl (cell_one_new _ _ _) ?d2 ?d3 ?d4 ?d5 ?_)
        case d2 => intro u hu; rw [List.mem_singleton.1 hu]; rfl
        case d3 => unfold maxLen; omega
        case d4 => omega
        case d5 => have := H.out.gat.new.size; simp; omega
        intro v' w2 hown1 hgrow1 hnil
        have HN : Hid (SubR w w1 w2 neg (.slice ao1 a.length c1) (.slice ao2 b.length c2) v' a b (ds ++ [dg a k - dg b k - cv]) (k + 1) 0) := H.out.next rfl (Or.inr ⟨by omega, rfl, rfl⟩) hgrow1 hown1
        obtain ⟨g', cap', rfl, _⟩ := own_form hown1 (by omega)
        clear hown1 hgrow1 hnil qa1 qb1
        go_wp2_with fail
        go_roundw
        case rel => exact ⟨k + 1, _, _, _, by go_num, rfl, rfl, by omega, by omega, by omega, HN.out⟩
        case measure => simp [intOf]; omega
    · have hk2 : k = a.length := by omega
      subst hk2
      have HD : Hid (∀ n, Dl (wr.drewN n) (.slice ao ds.length c) ds) := fun n => (own_dl H.out.gat.own H.out.inv.ok (by omega)).kept ((New.refl wr).drewN n)
      have HE : Hid (dv ds = dv a - dv b) := H.out.inv.done H.out.base.dy.ok H.out.base.le
      have hsz := H.out.base.size
      have q0 := H.out.cells.2.2
      have qr0 : wr.cell? ⟨w.heap.size + 1 + 1, 0, none⟩ = some (.bool false) := by rw [H.out.gat.new.rule _ _ (by omega)]; exact H.out.base.r0
      have qr1 : wr.cell? ⟨w.heap.size + 1 + 1, 1, none⟩ = some (.slice none 0 0) := by rw [H.out.gat.new.rule _ _ (by omega)]; exact H.out.base.r1
      have qf : ∀ o, wr.frozen? ⟨w.heap.size + 1 + 1, o, none⟩ = false := fun o => by rw [H.out.gat.new.frule _ _ (by omega)]; exact H.out.base.rf o
      clear qb1
      go_wp2_with fail
      have HDd : Hid (Dl wr.drew (.slice ao ds.length c) ds) := HD.out 1
      go_region_with (go_at_call 59; refine (trim_same _ ds _ HDd.out).mono ?_; rintro e w3 ⟨ao', c', ds', rfl, rfl, HT⟩)
      all_goals
        go_wp2_with fail
        refine bodyPost_ret (v := .agg #[.bool neg, .slice ao' ds'.length c']) (by simp [results, Try.results41, go_sem, qr0, qr1]) rfl ?_
        exact (H.out.gat.drewN 1).answer' H.out.base.new (by omega) HT.out.1 (by rw [HT.out.2.2.2.2]; exact fun e => own_row H.out.gat.own (k := w.heap.size + 1 + 1) (by omega) e.symm) HT.out.2.2.1 (by rw [nv_sub neg a b ds' (HT.out.2.1.trans HE.out)]) (by have := HT.out.2.2.2.1; omega)

theorem subB_swapped {w w1 : World} {neg : Bool} {va vb : Value} {a b : List Int} (ha : Dl w va a) (hb : Dl w vb b) (h : New (((w.alloc (.cells #[.bool neg, va] 55)).alloc (.cells #[.bool !neg, vb] 55)).alloc (.cells #[.bool false, .slice none 0 0] 55)) w1) (hle : dv a ≤ dv b) :
    SubB w ((((w1.setCell ⟨w.heap.size, 0, none⟩ (.bool !neg)).setCell ⟨w.heap.size, 1, none⟩ vb).setCell ⟨w.heap.size + 1, 0, none⟩ (.bool neg)).setCell ⟨w.heap.size + 1, 1, none⟩ va) (!neg) vb va b a := by
  have hN := (((New.alloc w (.cells #[.bool neg, va] 55)).alloc' (.cells #[.bool !neg, vb] 55)).alloc' (.cells #[.bool false, .slice none 0 0] 55)).trans' h
  have hsz : w.heap.size + 3 ≤ w1.heap.size := by have := h.size; simp at this; omega
  have b0 : w1.heap[w.heap.size]? = some (.cells #[.bool neg, va] 55 (0, 0)) := by
    rw [h.block _ (by simp <;> omega) (by simp), _root_.Go.heap_alloc_old _ _ (by simp <;> omega), _root_.Go.heap_alloc_old _ _ (by simp)]; exact _root_.Go.heap_alloc_new w _
  have b1 : w1.heap[w.heap.size + 1]? = some (.cells #[.bool !neg, vb] 55 (0, 0)) := by
    rw [h.block _ (by simp <;> omega) (by simp), _root_.Go.heap_alloc_old _ _ (by simp)]
    have := _root_.Go.heap_alloc_new (w.alloc (.cells #[.bool neg, va] 55)) (.cells #[.bool !neg, vb] 55)
    simpa using this
  have b2 : w1.heap[w.heap.size + 1 + 1]? = some (.cells #[.bool false, .slice none 0 0] 55 (0, 0)) := by
    rw [h.block _ (by simp) (by simp)]
    have := _root_.Go.heap_alloc_new ((w.alloc (.cells #[.bool neg, va] 55)).alloc (.cells #[.bool !neg, vb] 55)) (.cells #[.bool false, .slice none 0 0] 55)
    simpa using this
  have s0 := pair_set1 (u := vb) (pair_set0 (u := .bool !neg) b0)
  have s1 : ((w1.setCell ⟨w.heap.size, 0, none⟩ (.bool !neg)).setCell ⟨w.heap.size, 1, none⟩ vb).heap[w.heap.size + 1]? = some (.cells #[.bool !neg, vb] 55 (0, 0)) := by
    rw [heap_setCell_other _ ⟨w.heap.size, 1, none⟩ _ vb (by simp), heap_setCell_other _ ⟨w.heap.size, 0, none⟩ _ _ (by simp)]; exact b1
  have t1 := pair_set1 (u := va) (pair_set0 (u := .bool neg) s1)
  have t0 : ((((w1.setCell ⟨w.heap.size, 0, none⟩ (.bool !neg)).setCell ⟨w.heap.size, 1, none⟩ vb).setCell ⟨w.heap.size + 1, 0, none⟩ (.bool neg)).setCell ⟨w.heap.size + 1, 1, none⟩ va).heap[w.heap.size]? = some (.cells #[.bool !neg, vb] 55 (0, 0)) := by
    rw [heap_setCell_other _ ⟨w.heap.size + 1, 1, none⟩ _ va (by simp), heap_setCell_other _ ⟨w.heap.size + 1, 0, none⟩ _ _ (by simp)]; exact s0
  have t2 : ((((w1.setCell ⟨w.heap.size, 0, none⟩ (.bool !neg)).setCell ⟨w.heap.size, 1, none⟩ vb).setCell ⟨w.heap.size + 1, 0, none⟩ (.bool neg)).setCell ⟨w.heap.size + 1, 1, none⟩ va).heap[w.heap.size + 1 + 1]? = some (.cells #[.bool false, .slice none 0 0] 55 (0, 0)) := by
    rw [heap_setCell_other _ ⟨w.heap.size + 1, 1, none⟩ _ va (by simp), heap_setCell_other _ ⟨w.heap.size + 1, 0, none⟩ _ _ (by simp), heap_setCell_other _ ⟨w.heap.size, 1, none⟩ _ vb (by simp <;> omega), heap_setCell_other _ ⟨w.heap.size, 0, none⟩ _ _ (by simp <;> omega)]; exact b2
  have hb0 : Below w.heap.size w w1 := ⟨hN.os, hN.tape, hN.output, hN.size, fun k hk => hN.block k hk (by simp)⟩
  have hB := (((hb0.setCell (p := ⟨w.heap.size, 0, none⟩) (Nat.le_refl _) (.bool !neg)).setCell (p := ⟨w.heap.size, 1, none⟩) (Nat.le_refl _) vb).setCell (p := ⟨w.heap.size + 1, 0, none⟩) (by simp) (.bool neg)).setCell (p := ⟨w.heap.size + 1, 1, none⟩) (by simp) va
  have hV := Below.new hB
  exact ⟨hV, by simpa [World.setCell] using hsz, pair_cell0 t0, pair_cell1 t0, pair_cell1 t1, pair_cell0 t2, pair_cell1 t2, fun o => pair_free t2, hb.kept hV, ha.kept hV, hle⟩

set_option maxHeartbeats 3200000 in
theorem add_swapped (neg : Bool) (ao1 ao2 : Option Addr) (c1 c2 : Nat) (a b : List Int) (L : Nat) (w : World) (ha : Dl w (.slice ao1 a.length c1) a) (hb : Dl w (.slice ao2 b.length c2) b) (ta : Tr a) (tb : Tr b) (_la : a.length ≤ L) (lb : b.length ≤ L) (hL : L ≤ 900) (hle : gtB b a = true) :
    Calls Try.prog 41 #[.agg #[.bool neg, .slice ao1 a.length c1], .agg #[.bool !neg, .slice ao2 b.length c2]] w fun e w' => NuRet w (nv neg a + nv (!neg) b) (L + 1) e w' := by
  obtain ⟨i0, hi, hz0, hz1, hz2⟩ := info_parts Try.info3
  have hbb : (neg == !neg) = false := by cases neg <;> rfl
  have HLE : Hid (gtB b a = true) := hle
  go_enter Try.func41, Try.ntmps41
  go_wp2_with fail
  refine (greater_any _ _ b a _ (hb.kept (((New.alloc _ _).alloc' _).alloc' _)) (ha.kept (((New.alloc _ _).alloc' _).alloc' _)) tb ta).mono ?_
  rintro e w1 ⟨rfl, H1⟩
  have hr := H1.out.rule
  have hfr := H1.out.frule
  have hle2 := HLE.out
  go_wp2_with fail
  generalize hV : (((w1.setCell ⟨w.heap.size, 0, none⟩ (.bool !neg)).setCell ⟨w.heap.size, 1, none⟩ (.slice ao2 b.length c2)).setCell ⟨w.heap.size + 1, 0, none⟩ (.bool neg)).setCell ⟨w.heap.size + 1, 1, none⟩ (.slice ao1 a.length c1) = V
  have HB : Hid (SubB w V (!neg) (.slice ao2 b.length c2) (.slice ao1 a.length c1) b a) := by
    rw [← hV]
    exact subB_swapped ha hb H1.out (by have := of_decide_eq_true HLE.out; omega)
  clear hV hr hfr H1 hle hle2
  go_loopw [10, 11, 12] (fun d c i wr => ∃ (k : Nat) (cv : Int) (v : Value) (ds : List Int), i = .int .i64 k ∧ c = .int .i64 cv ∧ d = v ∧ 0 ≤ cv ∧ cv ≤ 1 ∧ k ≤ b.length ∧ Hid (SubR w V wr (!neg) (.slice ao2 b.length c2) (.slice ao1 a.length c1) v b a ds k cv))
    (fun _ _ i _ => b.length - (intOf i).toNat)
  case atStart => exact ⟨0, 0, _, [], rfl, rfl, rfl, by omega, by omega, by omega, HB.out, SubI.start b a, World.ownsRow_nil _ _ _ _, New.refl V⟩
  case round =>
    obtain ⟨k, cv, v, ds, rfl, rfl, rfl, hc0, hc1, hk, H⟩ := hrel
    obtain ⟨ao, c, hv⟩ := own_shape H.out.gat.own
    subst hv
    have hlen : ds.length ≤ L := by have := H.out.inv.len; omega
    have qa1 := H.out.cells.1
    have qb1 := H.out.cells.2.1
    by_cases g1 : k < b.length
    · have HDr : Hid (∀ n, Dl (wr.drewN n) (.slice ao2 b.length c2) b ∧ Dl (wr.drewN n) (.slice ao1 a.length c1) a) := H.out.digits
      have ba0 := (dg_ok H.out.base.dx.ok k).1
      have ba1 := (dg_ok H.out.base.dx.ok k).2
      have bb0 := (dg_ok H.out.base.dy.ok k).1
      have bb1 := (dg_ok H.out.base.dy.ok k).2
      by_cases hs : dg b k - dg a k - cv < 0
      · skip
        go_wp2_with fail
        go_quiet (first | (go_at_call 58; exact Calls.quiet_of_same (digit_same _ b k _ (HDr.out _).1 (by omega))) | (go_at_call 58; exact Calls.quiet_of_same (digit_same _ a k _ (HDr.out _).2 (by omega))))
        go_wp2_with (at_builtin; refine wpList_append_own _ rfl _ _ 46 rfl V.heap.size 3 i0 (.int .i64 0) 1 8 Try.underlying46 hi hz0 hz1 hz2 rfl (by decide) _ _ _ rfl ((H.out.gat.drewN nq).own.alloc _) ⟨wr.heap.size, 0, none⟩ 1 1 [.int .i64 (dg b k - dg a k - cv + 1048576)] rfl rfl (cell_one_new _ _ _) ?c2 ?c3 ?c4 ?c5 ?_)
        case c2 => intro u hu; rw [List.mem_singleton.1 hu]; rfl
        case c3 => unfold maxLen; omega
        case c4 => omega
        case c5 => have := H.out.gat.new.size; simp; omega
        intro v' w2 hown1 hgroV hnil
        have HN : Hid (SubR w V w2 (!neg) (.slice ao2 b.length c2) (.slice ao1 a.length c1) v' b a (ds ++ [dg b k - dg a k - cv + 1048576]) (k + 1) 1) := H.out.next rfl (Or.inl ⟨by omega, rfl, rfl⟩) hgroV hown1
        obtain ⟨g', cap', rfl, _⟩ := own_form hown1 (by omega)
        clear hown1 hgroV hnil qa1 qb1
        go_wp2_with fail
        go_roundw
        case rel => exact ⟨k + 1, _, _, _, by go_num, rfl, rfl, by omega, by omega, by omega, HN.out⟩
        case measure => simp [intOf]; omega
      · skip
        go_wp2_with fail
        go_quiet (first | (go_at_call 58; exact Calls.quiet_of_same (digit_same _ b k _ (HDr.out _).1 (by omega))) | (go_at_call 58; exact Calls.quiet_of_same (digit_same _ a k _ (HDr.out _).2 (by omega))))
        go_wp2_with (at_builtin; refine wpList_append_own _ rfl _ _ 46 rfl V.heap.size 3 i0 (.int .i64 0) 1 8 Try.underlying46 hi hz0 hz1 hz2 rfl (by decide) _ _ _ rfl ((H.out.gat.drewN nq).own.alloc _) ⟨wr.heap.size, 0, none⟩ 1 1 [.int .i64 (dg b k - dg a k - cv)] rfl rfl (cell_one_new _ _ _) ?d2 ?d3 ?d4 ?d5 ?_)
        case d2 => intro u hu; rw [List.mem_singleton.1 hu]; rfl
        case d3 => unfold maxLen; omega
        case d4 => omega
        case d5 => have := H.out.gat.new.size; simp; omega
        intro v' w2 hown1 hgroV hnil
        have HN : Hid (SubR w V w2 (!neg) (.slice ao2 b.length c2) (.slice ao1 a.length c1) v' b a (ds ++ [dg b k - dg a k - cv]) (k + 1) 0) := H.out.next rfl (Or.inr ⟨by omega, rfl, rfl⟩) hgroV hown1
        obtain ⟨g', cap', rfl, _⟩ := own_form hown1 (by omega)
        clear hown1 hgroV hnil qa1 qb1
        go_wp2_with fail
        go_roundw
        case rel => exact ⟨k + 1, _, _, _, by go_num, rfl, rfl, by omega, by omega, by omega, HN.out⟩
        case measure => simp [intOf]; omega
    · have hk2 : k = b.length := by omega
      subst hk2
      have HD : Hid (∀ n, Dl (wr.drewN n) (.slice ao ds.length c) ds) := fun n => (own_dl H.out.gat.own H.out.inv.ok (by omega)).kept ((New.refl wr).drewN n)
      have HE : Hid (dv ds = dv b - dv a) := H.out.inv.done H.out.base.dy.ok H.out.base.le
      have hsz := H.out.base.size
      have q0 := H.out.cells.2.2
      have qr0 : wr.cell? ⟨w.heap.size + 1 + 1, 0, none⟩ = some (.bool false) := by rw [H.out.gat.new.rule _ _ (by omega)]; exact H.out.base.r0
      have qr1 : wr.cell? ⟨w.heap.size + 1 + 1, 1, none⟩ = some (.slice none 0 0) := by rw [H.out.gat.new.rule _ _ (by omega)]; exact H.out.base.r1
      have qf : ∀ o, wr.frozen? ⟨w.heap.size + 1 + 1, o, none⟩ = false := fun o => by rw [H.out.gat.new.frule _ _ (by omega)]; exact H.out.base.rf o
      clear qb1
      go_wp2_with fail
      have HDd : Hid (Dl wr.drew (.slice ao ds.length c) ds) := HD.out 1
      go_region_with (go_at_call 59; refine (trim_same _ ds _ HDd.out).mono ?_; rintro e w3 ⟨ao', c', ds', rfl, rfl, HT⟩)
      all_goals
        go_wp2_with fail
        refine bodyPost_ret (v := .agg #[.bool !neg, .slice ao' ds'.length c']) (by simp [results, Try.results41, go_sem, qr0, qr1]) rfl ?_
        exact (H.out.gat.drewN 1).answer' H.out.base.new (by omega) HT.out.1 (by rw [HT.out.2.2.2.2]; exact fun e => own_row H.out.gat.own (k := w.heap.size + 1 + 1) (by omega) e.symm) HT.out.2.2.1 (by rw [nv_sub (!neg) b a ds' (HT.out.2.1.trans HE.out), Bool.not_not]; omega) (by have := HT.out.2.2.2.1; omega)

/-- 'Add'. -/
theorem add_num (m n : Value) (x y : Int) (L : Nat) (w : World) (h1 : Nu w m x L) (h2 : Nu w n y L) (hL : L ≤ 900) :
    Calls Try.prog 41 #[m, n] w fun e w' => NuRet w (x + y) (L + 1) e w' := by
  obtain ⟨neg, va, a, rfl, da, ta, rfl, la⟩ := h1.ex
  obtain ⟨neg', vb, b, rfl, db, tb, rfl, lb⟩ := h2.ex
  obtain ⟨ao1, n1, c1, rfl, rfl⟩ := slice_val da
  obtain ⟨ao2, n2, c2, rfl, rfl⟩ := slice_val db
  by_cases hs : neg = neg'
  · subst hs
    exact add_alike neg ao1 ao2 c1 c2 a b L w da db ta tb la lb hL
  · have e : neg' = !neg := by cases neg <;> cases neg' <;> simp_all
    subst e
    cases hg : gtB b a with
    | true => exact add_swapped neg ao1 ao2 c1 c2 a b L w da db ta tb la lb hL hg
    | false => exact add_unlike neg ao1 ao2 c1 c2 a b L w da db ta tb la lb hL hg

end Go.Proofs.Ytgeoffpcmkofkaa
/- The walk of plumbref's 'Mul'. -/
namespace Go.Proofs.Ytgeoffpcmkofkaa
open Go.RowKit Fl Dg
set_option maxRecDepth 100000

/-- What holds in a round of 'Mul': the row of digits d lies at the head of block g. -/
structure MulR (w V wr : World) (g : Nat) (n1 n2 : Bool) (va vb : Value) (a b d : List Int) (i k : Nat) (c : Int) : Prop where
  new : New w V
  size : V.heap.size = w.heap.size + 3
  gV : g = V.heap.size
  x0 : V.cell? ⟨w.heap.size, 0, none⟩ = some (.bool n1)
  x1 : V.cell? ⟨w.heap.size, 1, none⟩ = some va
  y0 : V.cell? ⟨w.heap.size + 1, 0, none⟩ = some (.bool n2)
  y1 : V.cell? ⟨w.heap.size + 1, 1, none⟩ = some vb
  r0 : V.cell? ⟨w.heap.size + 1 + 1, 0, none⟩ = some (.bool false)
  r1 : V.cell? ⟨w.heap.size + 1 + 1, 1, none⟩ = some (.slice none 0 0)
  rf : ∀ o, V.frozen? ⟨w.heap.size + 1 + 1, o, none⟩ = false
  dx : Dl V va a
  dy : Dl V vb b
  inv : MulI a b i k d c
  own : wr.ownsRow V.heap.size 3 1 (.slice (some ⟨g, 0, none⟩) (a.length + b.length + 1) (a.length + b.length + 1)) (a.length + b.length + 1) (d.map (Value.int .i64))
  vnew : New V wr

section
variable {w V wr : World} {g : Nat} {n1 n2 : Bool} {va vb : Value} {a b d : List Int} {i k : Nat} {c : Int}

theorem MulR.digits (h : MulR w V wr g n1 n2 va vb a b d i k c) (n : Nat) : Dl (wr.drewN n) va a ∧ Dl (wr.drewN n) vb b :=
  ⟨h.dx.kept (h.vnew.drewN n), h.dy.kept (h.vnew.drewN n)⟩

theorem MulR.cells (h : MulR w V wr g n1 n2 va vb a b d i k c) :
    wr.cell? ⟨w.heap.size, 0, none⟩ = some (.bool n1) ∧ wr.cell? ⟨w.heap.size, 1, none⟩ = some va ∧ wr.cell? ⟨w.heap.size + 1, 0, none⟩ = some (.bool n2) ∧ wr.cell? ⟨w.heap.size + 1, 1, none⟩ = some vb ∧
    wr.cell? ⟨w.heap.size + 1 + 1, 0, none⟩ = some (.bool false) ∧ wr.cell? ⟨w.heap.size + 1 + 1, 1, none⟩ = some (.slice none 0 0) ∧ (∀ o, wr.frozen? ⟨w.heap.size + 1 + 1, o, none⟩ = false) := by
  have hs := h.size
  refine ⟨?_, ?_, ?_, ?_, ?_, ?_, ?_⟩
  · rw [h.vnew.rule _ _ (by omega)]; exact h.x0
  · rw [h.vnew.rule _ _ (by omega)]; exact h.x1
  · rw [h.vnew.rule _ _ (by omega)]; exact h.y0
  · rw [h.vnew.rule _ _ (by omega)]; exact h.y1
  · rw [h.vnew.rule _ _ (by omega)]; exact h.r0
  · rw [h.vnew.rule _ _ (by omega)]; exact h.r1
  · intro o; rw [h.vnew.frule _ _ (by omega)]; exact h.rf o

theorem MulR.dcell (h : MulR w V wr g n1 n2 va vb a b d i k c) {j : Nat} (hj : j < a.length + b.length + 1) : wr.cell? ⟨g, j, none⟩ = some (.int .i64 (dg d j)) := by
  have hl := h.inv.len
  rw [h.own.cellAt j (by omega), List.getElem?_map, dg, List.getD_eq_getElem?_getD, List.getElem?_eq_getElem (by omega)]; rfl

theorem MulR.acell (h : MulR w V wr g n1 n2 va vb a b d i k c) (hi : i < a.length) : ∃ ga ca, va = .slice (some ⟨ga, 0, none⟩) a.length ca ∧ a.length ≤ ca ∧ wr.cell? ⟨ga, i, none⟩ = some (.int .i64 (dg a i)) := by
  have hd := h.dx.kept h.vnew
  rcases hd.shape with ⟨_, h2⟩ | ⟨ga, ca, h1, h2, _, h3⟩
  · rw [h2] at hi; simp at hi
  · refine ⟨ga, ca, h1, h2, ?_⟩
    rw [h3 i hi, dg, List.getD_eq_getElem?_getD, List.getElem?_eq_getElem hi]; rfl

theorem MulR.next (h : MulR w V wr g n1 n2 va vb a b d i k c) (hi : i < a.length) (hk : k ≤ b.length) (n : Nat) {s : Int} (hs : s = dg d (i + k) + dg a i * dg b k + c) :
    MulR w V ((wr.drewN n).setCell ⟨g, i + k, none⟩ (.int .i64 (s % 1048576))) g n1 n2 va vb a b (d.set (i + k) (s % 1048576)) i (k + 1) (s / 1048576) ∧ 0 ≤ s ∧ s < 1099511627776 := by
  have hm := h.inv.next h.dx.ok h.dy.ok hi hk hs
  have own1 : (wr.drewN n).ownsRow V.heap.size 3 1 (.slice (some ⟨g, 0, none⟩) (a.length + b.length + 1) (a.length + b.length + 1)) (a.length + b.length + 1) (d.map (Value.int .i64)) := h.own
  have st := own1.stored (i + k) (.int .i64 (s % 1048576))
  refine ⟨⟨h.new, h.size, h.gV, h.x0, h.x1, h.y0, h.y1, h.r0, h.r1, h.rf, h.dx, h.dy, hm.1, ?_, ?_⟩, hm.2.1, hm.2.2⟩
  · rw [List.map_set]; exact st.1
  · exact (h.vnew.drewN n).trans st.2 (by rintro g' ⟨⟩; rw [h.gV]; exact Nat.le_refl _)

theorem MulR.outer (h : MulR w V wr g n1 n2 va vb a b d i k 0) (hi : i < a.length) (hk : b.length ≤ k) : MulR w V wr g n1 n2 va vb a b d (i + 1) 0 0 :=
  ⟨h.new, h.size, h.gV, h.x0, h.x1, h.y0, h.y1, h.r0, h.r1, h.rf, h.dx, h.dy, h.inv.outer hi hk, h.own, h.vnew⟩

theorem MulR.dl (h : MulR w V wr g n1 n2 va vb a b d i k c) (hf : a.length + b.length + 1 ≤ 1000) (n : Nat) : Dl (wr.drewN n) (.slice (some ⟨g, 0, none⟩) (a.length + b.length + 1) (a.length + b.length + 1)) d := by
  have hl := h.inv.len
  refine ⟨?_, h.inv.ok, by omega⟩
  rw [hl]
  refine ⟨h.own.1, ?_⟩
  rcases h.own.2 with h1 | ⟨g', cap', cur, h1, _, h2⟩
  · exact Or.inl h1
  · exact Or.inr ⟨g', cap', cur, h1, Nat.zero_le _, h2⟩
end

theorem num_answer {w wr : World} (hnw : New w wr) {R : Nat} (h1 : w.heap.size ≤ R) {neg : Bool} {x : Int} {L : Nat} {v' : Value} {ds' : List Int} (hd : Dl wr v' ds') (hR : v'.ownBlock ≠ some R) (ht : Tr ds') (hx : x = nv neg ds') (hL : ds'.length ≤ L) :
    NuRet w x L (.returned (.agg #[.bool neg, v'])) ((wr.setCell ⟨R, 0, none⟩ (.bool neg)).setCell ⟨R, 1, none⟩ v') := by
  have hb : Below w.heap.size w wr := ⟨hnw.os, hnw.tape, hnw.output, hnw.size, fun k hk => hnw.block k hk (by simp)⟩
  have hb2 := (hb.setCell (p := ⟨R, 0, none⟩) h1 (.bool neg)).setCell (p := ⟨R, 1, none⟩) h1 v'
  have o1 := ownsRow_setCell_other (ownsRow_setCell_other hd.own (a := ⟨R, 0, none⟩) hR (.bool neg)) (a := ⟨R, 1, none⟩) hR v'
  exact NuRet.mk ⟨⟨neg, v', ds', rfl, ⟨o1, hd.ok, hd.few⟩, ht, hx, hL⟩⟩ (Below.new hb2)

theorem nv_mul (n1 n2 : Bool) (a b d : List Int) (h : dv d = dv a * dv b) : nv (n1 != n2) d = nv n1 a * nv n2 b := by
  cases n1 <;> cases n2 <;> simp [nv, h] <;> grind

set_option maxHeartbeats 6400000 in
theorem mul_walk (n1 n2 : Bool) (ao1 ao2 : Option Addr) (c1 c2 : Nat) (a b : List Int) (L M : Nat) (w : World) (ha : Dl w (.slice ao1 a.length c1) a) (hb : Dl w (.slice ao2 b.length c2) b) (la : a.length ≤ L) (lb : b.length ≤ M) (hL : L + M ≤ 900) :
    Calls Try.prog 38 #[.agg #[.bool n1, .slice ao1 a.length c1], .agg #[.bool n2, .slice ao2 b.length c2]] w fun e w' => NuRet w (nv n1 a * nv n2 b) (L + M + 1) e w' := by
  obtain ⟨i0, hi0, hz0, hz1, hz2⟩ := info_parts Try.info3
  obtain ⟨V, hV⟩ : ∃ V, V = ((w.alloc (.cells #[.bool n1, .slice ao1 a.length c1] 55)).alloc (.cells #[.bool n2, .slice ao2 b.length c2] 55)).alloc (.cells #[.bool false, .slice none 0 0] 55) := ⟨_, rfl⟩
  have HV : Hid (V = ((w.alloc (.cells #[.bool n1, .slice ao1 a.length c1] 55)).alloc (.cells #[.bool n2, .slice ao2 b.length c2] 55)).alloc (.cells #[.bool false, .slice none 0 0] 55)) := hV
  clear hV
  go_enter Try.func38, Try.ntmps38
  go_wp2_with (at_make; refine wpList_make_full _ rfl _ _ 46 rfl V.heap.size 3 i0 (.int .i64 0) 1 Try.underlying46 hi0 hz0 hz1 _ _ _ _ (a.length + b.length + 1) rfl rfl (by omega) (by omega) ?b2 ?b3 ?b4 ?_)
  case b2 => rw [hz2]; omega
  case b3 => unfold maxLen; omega
  case b4 => rw [HV.out]; exact Nat.le_refl _
  intro w0 hown0 hgrow0
  have HR : Hid (MulR w V w0 (w.heap.size + 1 + 1 + 1) n1 n2 (.slice ao1 a.length c1) (.slice ao2 b.length c2) a b (List.replicate (a.length + b.length + 1) 0) 0 0 0) := by
    have hN : New w V := by rw [HV.out]; exact ((New.alloc _ _).alloc' _).alloc' _
    have hg : New V w0 := by rw [HV.out]; exact hgrow0
    refine ⟨hN, by rw [HV.out]; simp, by rw [HV.out]; simp, ?_, ?_, ?_, ?_, ?_, ?_, ?_, ha.kept hN, hb.kept hN, MulI.start a b, ?_, hg⟩
    · rw [HV.out]; go_simp
    · rw [HV.out]; go_simp
    · rw [HV.out]; go_simp
    · rw [HV.out]; go_simp
    · rw [HV.out]; go_simp
    · rw [HV.out]; go_simp
    · intro o; rw [HV.out]; go_simp
    · have e1 : (madeCells #[Value.int .i64 0] (a.length + b.length + 1)).toList = (List.replicate (a.length + b.length + 1) (0 : Int)).map (Value.int .i64) := by
        rw [List.map_replicate]; exact toList_madeCells_one _ _
      rw [← e1]
      exact hown0
  clear hown0 hgrow0 ha hb
  have HOK : Hid (Dok a ∧ Dok b) := ⟨HR.out.dx.ok, HR.out.dy.ok⟩
  go_wp2_with fail
  go_loopw [6] (fun ii wr => ∃ (i : Nat) (d : List Int), ii = .int .i64 i ∧ i ≤ a.length ∧ Hid (MulR w V wr (w.heap.size + 1 + 1 + 1) n1 n2 (.slice ao1 a.length c1) (.slice ao2 b.length c2) a b d i 0 0))
    (fun ii _ => a.length - (intOf ii).toNat)
  case atStart => exact ⟨0, _, rfl, Nat.zero_le _, HR.out⟩
  case round =>
    obtain ⟨i, d0, rfl, hile, H0⟩ := hrel
    have qa1 := H0.out.cells.2.1
    by_cases hi : i < a.length
    · go_wp2_with fail
      go_loopw [7, 8] (fun cc kk wr => ∃ (k : Nat) (cv : Int) (d : List Int), kk = .int .i64 k ∧ cc = .int .i64 cv ∧ 0 ≤ cv ∧ cv < 1048576 ∧ k ≤ b.length + 1 ∧ Hid (MulR w V wr (w.heap.size + 1 + 1 + 1) n1 n2 (.slice ao1 a.length c1) (.slice ao2 b.length c2) a b d i k cv))
        (fun _ kk _ => b.length + 1 - (intOf kk).toNat)
      case atStart => exact ⟨0, 0, d0, rfl, rfl, by omega, by omega, by omega, H0.out⟩
      case round =>
        clear qa1 H0
        obtain ⟨k, cv, d, rfl, rfl, hc0, hc1, hk, H⟩ := hrel
        have qa1 := H.out.cells.2.1
        have qb1 := H.out.cells.2.2.2.1
        by_cases g1 : k < b.length
        · have HGO : k < b.length ∨ 0 < cv := Or.inl g1
          have hkb : k ≤ b.length := H.out.inv.place HOK.out.1 HOK.out.2 hi HGO
          obtain ⟨ga, ca, hva, hca, hac⟩ := H.out.acell hi
          have hao : ao1 = some ⟨ga, 0, none⟩ := by simpa using (Value.slice.inj hva).1
          subst hao
          have hdc := H.out.dcell (j := i + k) (by omega)
          have hdf := H.out.own.frozenAt (i + k)
          have HDr : Hid (∀ n, Dl (wr.drewN n) (.slice (some ⟨ga, 0, none⟩) a.length c1) a ∧ Dl (wr.drewN n) (.slice ao2 b.length c2) b) := H.out.digits
          have HNx : Hid (∀ n, MulR w V ((wr.drewN n).setCell ⟨w.heap.size + 1 + 1 + 1, i + k, none⟩ (.int .i64 ((dg d (i + k) + dg a i * dg b k + cv) % 1048576))) (w.heap.size + 1 + 1 + 1) n1 n2 (.slice (some ⟨ga, 0, none⟩) a.length c1) (.slice ao2 b.length c2) a b (d.set (i + k) ((dg d (i + k) + dg a i * dg b k + cv) % 1048576)) i (k + 1) ((dg d (i + k) + dg a i * dg b k + cv) / 1048576)) := fun n => (H.out.next hi hkb n rfl).1
          have hac1 : a.length ≤ c1 := by have := (Value.slice.inj hva).2.2; omega
          have x0 := (dg_ok HOK.out.1 i).1
          have x1 := (dg_ok HOK.out.1 i).2
          have y0 := (dg_ok HOK.out.2 k).1
          have y1 := (dg_ok HOK.out.2 k).2
          have z0 := (dg_ok H.out.inv.ok (i + k)).1
          have z1 := (dg_ok H.out.inv.ok (i + k)).2
          have p0 : 0 ≤ dg a i * dg b k := Int.mul_nonneg x0 y0
          have p1 : dg a i * dg b k ≤ 1048575 * 1048575 := Int.mul_le_mul (by omega) (by omega) y0 (by omega)
          have hva2 : Hid (ca = c1) := by have := (Value.slice.inj hva).2.2; exact this.symm
          clear hva hac1
          have hix0 : (0 : Int) ≤ (i : Int) + k := by omega
          have hix1 : (i : Int) + k < ((a.length + b.length + 1 : Nat) : Int) := by omega
          have hia1 : (i : Int) < (a.length : Int) := by omega
          go_wp2_with fail
          go_quiet ((go_at_call 58; exact Calls.quiet_of_same (digit_same _ b k _ (HDr.out _).2 (by omega))))
          go_wp2_with fail
          go_roundw
          case rel => exact ⟨k + 1, _, _, by go_num, rfl, by omega, by omega, by omega, HNx.out _⟩
          case measure => simp [intOf]; omega
        · by_cases g2 : 0 < cv
          · have HGO : k < b.length ∨ 0 < cv := Or.inr g2
            have hkb : k ≤ b.length := H.out.inv.place HOK.out.1 HOK.out.2 hi HGO
            obtain ⟨ga, ca, hva, hca, hac⟩ := H.out.acell hi
            have hao : ao1 = some ⟨ga, 0, none⟩ := by simpa using (Value.slice.inj hva).1
            subst hao
            have hdc := H.out.dcell (j := i + k) (by omega)
            have hdf := H.out.own.frozenAt (i + k)
            have HDr : Hid (∀ n, Dl (wr.drewN n) (.slice (some ⟨ga, 0, none⟩) a.length c1) a ∧ Dl (wr.drewN n) (.slice ao2 b.length c2) b) := H.out.digits
            have HNx : Hid (∀ n, MulR w V ((wr.drewN n).setCell ⟨w.heap.size + 1 + 1 + 1, i + k, none⟩ (.int .i64 ((dg d (i + k) + dg a i * dg b k + cv) % 1048576))) (w.heap.size + 1 + 1 + 1) n1 n2 (.slice (some ⟨ga, 0, none⟩) a.length c1) (.slice ao2 b.length c2) a b (d.set (i + k) ((dg d (i + k) + dg a i * dg b k + cv) % 1048576)) i (k + 1) ((dg d (i + k) + dg a i * dg b k + cv) / 1048576)) := fun n => (H.out.next hi hkb n rfl).1
            have hac1 : a.length ≤ c1 := by have := (Value.slice.inj hva).2.2; omega
            have x0 := (dg_ok HOK.out.1 i).1
            have x1 := (dg_ok HOK.out.1 i).2
            have y0 := (dg_ok HOK.out.2 k).1
            have y1 := (dg_ok HOK.out.2 k).2
            have z0 := (dg_ok H.out.inv.ok (i + k)).1
            have z1 := (dg_ok H.out.inv.ok (i + k)).2
            have p0 : 0 ≤ dg a i * dg b k := Int.mul_nonneg x0 y0
            have p1 : dg a i * dg b k ≤ 1048575 * 1048575 := Int.mul_le_mul (by omega) (by omega) y0 (by omega)
            have hva2 : Hid (ca = c1) := by have := (Value.slice.inj hva).2.2; exact this.symm
            clear hva hac1
            have hix0 : (0 : Int) ≤ (i : Int) + k := by omega
            have hix1 : (i : Int) + k < ((a.length + b.length + 1 : Nat) : Int) := by omega
            have hia1 : (i : Int) < (a.length : Int) := by omega
            go_wp2_with fail
            go_quiet ((go_at_call 58; exact Calls.quiet_of_same (digit_same _ b k _ (HDr.out _).2 (by omega))))
            go_wp2_with fail
            go_roundw
            case rel => exact ⟨k + 1, _, _, by go_num, rfl, by omega, by omega, by omega, HNx.out _⟩
            case measure => simp [intOf]; omega
          · have hz : cv = 0 := by omega
            subst hz
            go_wp2_with fail
            go_roundw
            case rel => exact ⟨i + 1, d, by go_num, hi, H.out.outer hi (by omega)⟩
            case measure => simp [intOf]; omega
    · have hi2 : i = a.length := by omega
      subst hi2
      have q0 := H0.out.cells.1
      have p0 := H0.out.cells.2.2.1
      have qr0 := H0.out.cells.2.2.2.2.1
      have qr1 := H0.out.cells.2.2.2.2.2.1
      have qf := H0.out.cells.2.2.2.2.2.2
      have HDd : Hid (Dl wr.drew (.slice (some ⟨w.heap.size + 1 + 1 + 1, 0, none⟩) (a.length + b.length + 1) (a.length + b.length + 1)) d0) := H0.out.dl (by omega) 1
      go_wp2_with fail
      go_region_with (go_at_call 59; refine (trim_same _ d0 _ HDd.out).mono ?_; rintro e w3 ⟨ao', c', ds', rfl, rfl, HT⟩)
      all_goals
        go_wp2_with fail
        refine bodyPost_ret (v := .agg #[.bool (!(n1 == n2)), .slice ao' ds'.length c']) (by simp [results, Try.results38, go_sem, qr0, qr1]) rfl ?_
        exact num_answer ((H0.out.new.trans' H0.out.vnew).drewN 1) (by omega) HT.out.1 (by rw [HT.out.2.2.2.2]; simp [Value.ownBlock]) HT.out.2.2.1 (nv_mul n1 n2 a b ds' (HT.out.2.1.trans H0.out.inv.done)).symm (by have := HT.out.2.2.2.1; have := H0.out.inv.len; omega)

theorem mul_num (m n : Value) (x y : Int) (L M : Nat) (w : World) (h1 : Nu w m x L) (h2 : Nu w n y M) (hL : L + M ≤ 900) :
    Calls Try.prog 38 #[m, n] w fun e w' => NuRet w (x * y) (L + M + 1) e w' := by
  obtain ⟨neg, va, a, rfl, da, ta, rfl, la⟩ := h1.ex
  obtain ⟨neg', vb, b, rfl, db, tb, rfl, lb⟩ := h2.ex
  obtain ⟨ao1, n1, c1, rfl, rfl⟩ := slice_val da
  obtain ⟨ao2, n2, c2, rfl, rfl⟩ := slice_val db
  exact mul_walk neg neg' ao1 ao2 c1 c2 a b L M w da db la lb hL

end Go.Proofs.Ytgeoffpcmkofkaa
/- The walks of plumbref's 'gap', 'Side', 'Bad'. -/
namespace Go.Proofs.Ytgeoffpcmkofkaa
open Go.RowKit Fl Dg
set_option maxRecDepth 100000

theorem nu_form {w : World} {n : Value} {x : Int} {L : Nat} (h : Nu w n x L) : ∃ (neg : Bool) (ao : Option Addr) (m c : Nat), n = .agg #[.bool neg, .slice ao m c] := by
  obtain ⟨neg, v, ds, rfl, h1, _⟩ := h.ex
  obtain ⟨ao, m, c, rfl, _⟩ := slice_val h1
  exact ⟨neg, ao, m, c, rfl⟩

/-- A contract's answer, written out. -/
theorem NuRet.open {w : World} {x : Int} {L : Nat} {e : Ending} {w' : World} (h : NuRet w x L e w') : ∃ (neg : Bool) (ao : Option Addr) (m c : Nat), e = .returned (.agg #[.bool neg, .slice ao m c]) ∧ Hid (Nu w' (.agg #[.bool neg, .slice ao m c]) x L ∧ New w w') := by
  obtain ⟨n, rfl, H⟩ := h
  obtain ⟨neg, ao, m, c, rfl⟩ := nu_form H.out.1
  exact ⟨neg, ao, m, c, rfl, H⟩

theorem of_num' (n : Int) (w : World) (h : Cd n) : Calls Try.prog 60 #[.int .i64 n] w fun e w' => ∃ (neg : Bool) (ao : Option Addr) (m c : Nat), e = .returned (.agg #[.bool neg, .slice ao m c]) ∧ Hid (Nu w' (.agg #[.bool neg, .slice ao m c]) n 3 ∧ New w w') :=
  (of_num n w h).mono fun _ _ h => h.open
theorem minus_num' {n : Value} {x : Int} {L : Nat} {w : World} (h : Nu w n x L) : Calls Try.prog 42 #[n] w fun e w' => ∃ (neg : Bool) (ao : Option Addr) (m c : Nat), e = .returned (.agg #[.bool neg, .slice ao m c]) ∧ Hid (Nu w' (.agg #[.bool neg, .slice ao m c]) (-x) L ∧ New w w') :=
  (minus_num n x L w h).mono fun _ _ h => h.open
theorem add_num' {m n : Value} {x y : Int} {L : Nat} {w : World} (h1 : Nu w m x L) (h2 : Nu w n y L) (hL : L ≤ 900) : Calls Try.prog 41 #[m, n] w fun e w' => ∃ (neg : Bool) (ao : Option Addr) (k c : Nat), e = .returned (.agg #[.bool neg, .slice ao k c]) ∧ Hid (Nu w' (.agg #[.bool neg, .slice ao k c]) (x + y) (L + 1) ∧ New w w') :=
  (add_num m n x y L w h1 h2 hL).mono fun _ _ h => h.open
theorem mul_num' {m n : Value} {x y : Int} {L M : Nat} {w : World} (h1 : Nu w m x L) (h2 : Nu w n y M) (hL : L + M ≤ 900) : Calls Try.prog 38 #[m, n] w fun e w' => ∃ (neg : Bool) (ao : Option Addr) (k c : Nat), e = .returned (.agg #[.bool neg, .slice ao k c]) ∧ Hid (Nu w' (.agg #[.bool neg, .slice ao k c]) (x * y) (L + M + 1) ∧ New w w') :=
  (mul_num m n x y L M w h1 h2 hL).mono fun _ _ h => h.open

/-- A number is stored into the block R, where nothing of it lies. -/
theorem nu_stored {w wr : World} (hnw : New w wr) {R : Nat} (h1 : w.heap.size ≤ R) {neg : Bool} {ao : Option Addr} {m c : Nat} {x : Int} {L : Nat} (hd : Nu wr (.agg #[.bool neg, .slice ao m c]) x L) (hR : wr.heap[R]? = some (.cells #[.bool false, .slice none 0 0] 55 (0, 0))) :
    NuRet w x L (.returned (.agg #[.bool neg, .slice ao m c])) ((wr.setCell ⟨R, 0, none⟩ (.bool neg)).setCell ⟨R, 1, none⟩ (.slice ao m c)) := by
  obtain ⟨neg', v, ds, e, h2, h3, h4, h5⟩ := hd.ex
  cases e
  refine num_answer hnw h1 h2 ?_ h3 h4 h5
  intro e
  rcases h2.own.2 with ⟨h6, _⟩ | ⟨g, cap, cur, h6, _, h7, _⟩
  · rw [h6] at e; cases e
  · rw [h6] at e
    simp only [Value.ownBlock, Option.some.injEq] at e
    subst e
    rw [h7] at hR
    simp at hR

set_option maxHeartbeats 800000 in
theorem gap_any (a b : Int) (w : World) (ha : Cd a) (hb : Cd b) :
    Calls Try.prog 39 #[.int .i64 a, .int .i64 b] w fun e w' => NuRet w (a - b) 4 e w' := by
  go_enter Try.func39, Try.ntmps39
  go_wp2_with fail
  refine (of_num' a _ ha).mono ?_
  rintro e w1 ⟨n1, ao1, m1, c1, rfl, H1⟩
  go_wp2_with fail
  refine (of_num' b _ hb).mono ?_
  rintro e w2 ⟨n2, ao2, m2, c2, rfl, H2⟩
  go_wp2_with fail
  refine (minus_num' H2.out.1).mono ?_
  rintro e w3 ⟨n3, ao3, m3, c3, rfl, H3⟩
  go_wp2_with fail
  refine (add_num' ((H1.out.1.kept H2.out.2).kept H3.out.2) H3.out.1 (by omega)).mono ?_
  rintro e w4 ⟨n4, ao4, m4, c4, rfl, H4⟩
  have HN : Hid (New (w.alloc (.cells #[.bool false, .slice none 0 0] 55)) w4) := ((H1.out.2.trans' H2.out.2).trans' H3.out.2).trans' H4.out.2
  have hR : w4.heap[w.heap.size]? = some (.cells #[.bool false, .slice none 0 0] 55 (0, 0)) := by
    rw [HN.out.block _ (by simp) (by simp)]; exact _root_.Go.heap_alloc_new w _
  have qr0 := pair_cell0 hR
  have qr1 := pair_cell1 hR
  have qf0 := pair_free (o := 0) hR
  have qf1 := pair_free (o := 1) hR
  have HR : Hid (w4.heap[w.heap.size]? = some (.cells #[.bool false, .slice none 0 0] 55 (0, 0))) := hR
  clear hR
  go_wp2_with fail
  refine bodyPost_ret (v := .agg #[.bool n4, .slice ao4 m4 c4]) (by simp [results, Try.results39, go_sem, qr0, qr1]) rfl ?_
  have hx : a - b = a + -b := by omega
  rw [hx]
  exact nu_stored ((New.alloc w _).trans' HN.out) (Nat.le_refl _) H4.out.1 HR.out

end Go.Proofs.Ytgeoffpcmkofkaa
