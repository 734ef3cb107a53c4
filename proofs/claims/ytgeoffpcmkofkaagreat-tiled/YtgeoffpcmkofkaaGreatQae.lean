/- Wx; Wy; Wz; Xc; Yb: texts laid into one. -/
import Derived.Test.YtgeoffpcmkofkaaGreatQad
import Derived.Test.YtgeoffpcmkofkaaGreatQac
/- The walk of 'roughCircle'. -/
namespace Go.Proofs.YtgeoffpcmkofkaaGreat
open Go.RowKit Fl
set_option maxRecDepth 100000

theorem eight_keep {W w' : World} {g : Nat} {p q r s t u x y : Value} (hn : New W w') (hs : g + 1 + 1 + 1 < W.heap.size ∧ W.cell? ⟨g, 0, none⟩ = some p ∧ W.cell? ⟨g, 1, none⟩ = some q ∧ W.cell? ⟨g + 1, 0, none⟩ = some r ∧ W.cell? ⟨g + 1, 1, none⟩ = some s ∧ W.cell? ⟨g + 1 + 1, 0, none⟩ = some t ∧ W.cell? ⟨g + 1 + 1, 1, none⟩ = some u ∧ W.cell? ⟨g + 1 + 1 + 1, 0, none⟩ = some x ∧ W.cell? ⟨g + 1 + 1 + 1, 1, none⟩ = some y) :
    g + 1 + 1 + 1 < w'.heap.size ∧ w'.cell? ⟨g, 0, none⟩ = some p ∧ w'.cell? ⟨g, 1, none⟩ = some q ∧ w'.cell? ⟨g + 1, 0, none⟩ = some r ∧ w'.cell? ⟨g + 1, 1, none⟩ = some s ∧ w'.cell? ⟨g + 1 + 1, 0, none⟩ = some t ∧ w'.cell? ⟨g + 1 + 1, 1, none⟩ = some u ∧ w'.cell? ⟨g + 1 + 1 + 1, 0, none⟩ = some x ∧ w'.cell? ⟨g + 1 + 1 + 1, 1, none⟩ = some y := by
  obtain ⟨h0, h1, h2, h3, h4, h5, h6, h7, h8⟩ := hs
  have := hn.size
  refine ⟨by omega, ?_, ?_, ?_, ?_, ?_, ?_, ?_, ?_⟩
  all_goals (rw [hn.rule _ _ (by omega)]; assumption)

theorem getD_false {listed : Array Bool} {i : Nat} (h : listed.getD i true = false) : listed.getD i false = false := by
  by_cases hs : i < listed.size
  · simpa [Array.getD, hs] using h
  · simp [Array.getD, hs]

/-- All edges lead back. -/
def edgesB (md : Region.Mode) (ops : Array Oper) : Bool := (List.range ops.size).all fun i => ((ops[i]?).map fun o => o.after.all fun e => !Region.binds md e || decide (e.on < i)).getD true
def guardsB (ops : Array Oper) : Bool := ops.all fun o => o.guard.isNone

theorem edges_ok {md : Region.Mode} {ops : Array Oper} (h : edgesB md ops = true) : ∀ (i : Nat) (o : Oper), ops[i]? = some o → ∀ e ∈ o.after, Region.binds md e = true → e.on < i := by
  intro i o ho e he hb
  have hi : i < ops.size := (Array.getElem?_eq_some_iff.1 ho).1
  have h1 := List.all_eq_true.1 h i (by simpa using hi)
  rw [ho] at h1
  simp only [Option.map_some, Option.getD_some] at h1
  rw [Array.all_eq_true_iff_forall_mem] at h1
  have := h1 e he
  rw [hb] at this
  simpa using this

theorem guards_ok {ops : Array Oper} (h : guardsB ops = true) : ∀ (i : Nat) (o : Oper), ops[i]? = some o → o.guard = none := by
  intro i o ho
  unfold guardsB at h
  rw [Array.all_eq_true_iff_forall_mem] at h
  have := h o (Array.mem_of_getElem? ho)
  simpa using this

/-- The rows, rounded. -/
def RR (ax ay bx by' cx cy dx dy : Int) (j : Fin 3) (v : Value) (_w : World) : Prop :=
  ∃ x y s : Nat × Int, v = .agg #[.float .f64 x.1, .float .f64 y.1, .float .f64 s.1] ∧ RRow ((if j = 0 then ax else if j = 1 then bx else cx) - dx) ((if j = 0 then ay else if j = 1 then by' else cy) - dy) x y s

section
variable {ax ay bx by' cx cy dx dy : Int}
theorem rr_new : ∀ (j : Fin 3) (v : Value) (w w' : World), RR ax ay bx by' cx cy dx dy j v w → New w w' → RR ax ay bx by' cx cy dx dy j v w' := fun _ _ _ _ h _ => h
theorem rr_set {z : Array Value} {t : TypeId} : ∀ (j : Fin 3) (v : Value) (w : World) (b : Nat) (x0 x1 x2 : Value), RR ax ay bx by' cx cy dx dy j v w → w.heap[b]? = some (.cells z t (0, 0)) → RR ax ay bx by' cx cy dx dy j v (((w.setCell ⟨b, 0, none⟩ x0).setCell ⟨b, 1, none⟩ x1).setCell ⟨b, 2, none⟩ x2) := fun _ _ _ _ _ _ _ h _ => h
theorem rr_mk0 {x y s : Nat × Int} {w : World} (h : RRow (ax - dx) (ay - dy) x y s) : RR ax ay bx by' cx cy dx dy 0 (.agg #[.float .f64 x.1, .float .f64 y.1, .float .f64 s.1]) w := ⟨x, y, s, rfl, h⟩
theorem rr_mk1 {x y s : Nat × Int} {w : World} (h : RRow (bx - dx) (by' - dy) x y s) : RR ax ay bx by' cx cy dx dy 1 (.agg #[.float .f64 x.1, .float .f64 y.1, .float .f64 s.1]) w := ⟨x, y, s, rfl, h⟩
theorem rr_mk2 {x y s : Nat × Int} {w : World} (h : RRow (cx - dx) (cy - dy) x y s) : RR ax ay bx by' cx cy dx dy 2 (.agg #[.float .f64 x.1, .float .f64 y.1, .float .f64 s.1]) w := ⟨x, y, s, rfl, h⟩
theorem rr_form {j : Fin 3} {v : Value} {w : World} (h : RR ax ay bx by' cx cy dx dy j v w) : ∃ x y s : Nat, v = .agg #[.float .f64 x, .float .f64 y, .float .f64 s] := by
  obtain ⟨x, y, s, e, _⟩ := h
  exact ⟨_, _, _, e⟩
end

/-- The number whose sign is the circle side. -/
def cdet (ax ay bx by' cx cy dx dy : Int) : Int :=
  ((ax - dx) * (ax - dx) + (ay - dy) * (ay - dy)) * ((bx - dx) * (cy - dy) - (by' - dy) * (cx - dx)) +
  ((bx - dx) * (bx - dx) + (by' - dy) * (by' - dy)) * ((cx - dx) * (ay - dy) - (cy - dy) * (ax - dx)) +
  ((cx - dx) * (cx - dx) + (cy - dy) * (cy - dy)) * ((ax - dx) * (by' - dy) - (ay - dy) * (bx - dx))

theorem Fl.G.mono {s z c c' : Int} (h : G s z c) (hc : c ≤ c') : G s z c' := ⟨Int.le_trans h.1 (Int.mul_le_mul_of_nonneg_right (by omega) h.2), h.2⟩

theorem circle_words {T1 T2 T3 : Int} {v1 z1 v2 z2 v3 z3 : Nat × Int} (h1 : RTerm T1 v1 z1) (h2 : RTerm T2 v2 z2) (h3 : RTerm T3 v3 z3) :
    ∃ (a d b t s : Nat) (zd S : Int), Ieee.double.add v1.1 v2.1 = some a ∧ Ieee.double.add a v3.1 = some d ∧ Ieee.double.add z1.1 z2.1 = some b ∧ Ieee.double.add b z3.1 = some t ∧ Ieee.double.mul 4386506037058863104 t = some s ∧
      F d zd 0 ∧ F s S 49 ∧ (S < zd * 2 ^ 49 → 0 < T1 + T2 + T3) ∧ (zd * 2 ^ 49 < -S → T1 + T2 + T3 < 0) := by
  have m22 : (2 : Int) ^ 222 ≤ 2 ^ 223 := p2_le (by omega)
  have b1 := add_le_p2 h1.sv h2.sv
  obtain ⟨a, za, e1, q1, f1⟩ := h1.wv.add h2.wv (by omega) (small_Big b1 (by omega))
  have c1 := rnd_p2 q1 b1
  have b2 := add_le_p2 c1 (Int.le_trans h3.sv m22)
  obtain ⟨d, zd, e2, q2, f2⟩ := f1.add h3.wv (by omega) (small_Big b2 (by omega))
  have b3 := add_le_p2 h1.sz h2.sz
  obtain ⟨b, zb, e3, q3, f3⟩ := h1.wz.add h2.wz (by omega) (small_Big b3 (by omega))
  have c3 := rnd_p2 q3 b3
  have b4 := add_le_p2 c3 (Int.le_trans h3.sz m22)
  obtain ⟨t, zt, e4, q4, f4⟩ := f3.add h3.wz (by omega) (small_Big b4 (by omega))
  have c4 := rnd_p2 q4 b4
  obtain ⟨s, zs, e5, q5, f5⟩ := slack49.mul f4 (by omega) (by rw [Int.one_mul]; exact small_Big c4 (by omega))
  rw [Int.one_mul] at q5
  have hzs := q5.exact q4.rep
  subst hzs
  obtain ⟨s1, E1, G1⟩ := h1.err
  obtain ⟨s2, E2, G2⟩ := h2.err
  obtain ⟨s3, E3, G3⟩ := h3.err
  have E4 := ((E1.add E2).roundS q1 (by omega) (by omega)).mono (show _ ≤ 1305 by omega)
  have E5 := (E4.add (E3.mono (show (1175 : Int) ≤ 1305 by omega))).roundS q2 (by omega) (by omega)
  have G4 := ((G1.add G2).round q3 (by omega) (by omega)).mono (show _ ≤ 389 by omega)
  have G5 := (G4.add (G3.mono (show (259 : Int) ≤ 389 by omega))).round q4 (by omega) (by omega)
  have e49 : (2 : Int) ^ 49 = 562949953421312 := by decide
  have hs := sign_sure' (m := 2 ^ 49) E5 G5 (by omega) (by omega) e49
  exact ⟨a, d, b, t, s, zd, zs, e1, e2, e3, e4, e5, f2, f5, hs.1, hs.2⟩

set_option maxHeartbeats 6400000 in
theorem roughCircle_any (ax ay bx by' cx cy dx dy : Int) (w : World) (h1 : Cd ax) (h2 : Cd ay) (h3 : Cd bx) (h4 : Cd by') (h5 : Cd cx) (h6 : Cd cy) (h7 : Cd dx) (h8 : Cd dy) :
    Calls Tryz.prog 34 #[.agg #[.int .i64 ax, .int .i64 ay], .agg #[.int .i64 bx, .int .i64 by'], .agg #[.int .i64 cx, .int .i64 cy], .agg #[.int .i64 dx, .int .i64 dy]] w fun e w' =>
      ∃ (sg : Int) (b : Bool), e = .returned (.tuple #[.int .i64 sg, .bool b]) ∧ Hid (New w w' ∧ (b = true → sg = sgn (cdet ax ay bx by' cx cy dx dy))) := by
  obtain ⟨W, hW⟩ : ∃ W, W = (((w.alloc (.cells #[.int .i64 ax, .int .i64 ay] 36)).alloc (.cells #[.int .i64 bx, .int .i64 by'] 36)).alloc (.cells #[.int .i64 cx, .int .i64 cy] 36)).alloc (.cells #[.int .i64 dx, .int .i64 dy] 36) := ⟨_, rfl⟩
  have HW : Hid (New w W) := by rw [hW]; exact (((New.alloc _ _).alloc' _).alloc' _).alloc' _
  have HS : Hid (w.heap.size + 1 + 1 + 1 < W.heap.size ∧ W.cell? ⟨w.heap.size, 0, none⟩ = some (.int .i64 ax) ∧ W.cell? ⟨w.heap.size, 1, none⟩ = some (.int .i64 ay) ∧ W.cell? ⟨w.heap.size + 1, 0, none⟩ = some (.int .i64 bx) ∧ W.cell? ⟨w.heap.size + 1, 1, none⟩ = some (.int .i64 by') ∧ W.cell? ⟨w.heap.size + 1 + 1, 0, none⟩ = some (.int .i64 cx) ∧ W.cell? ⟨w.heap.size + 1 + 1, 1, none⟩ = some (.int .i64 cy) ∧ W.cell? ⟨w.heap.size + 1 + 1 + 1, 0, none⟩ = some (.int .i64 dx) ∧ W.cell? ⟨w.heap.size + 1 + 1 + 1, 1, none⟩ = some (.int .i64 dy)) := by
    rw [hW]
    refine ⟨by simp, ?_, ?_, ?_, ?_, ?_, ?_, ?_, ?_⟩ <;> go_simp
  go_enter Tryz.func34, Tryz.ntmps34
  go_wp2_with fail
  rw [← hW]
  clear hW
  refine wp_region_inv (by kernel_rfl) (fun listed a' w' => ∃ (p r : Fin 3 → Value) (s0 s1 s3 s4 s6 s7 : Value), a' = { tmps := #[.agg #[.int .i64 ax, .int .i64 ay], .agg #[.int .i64 bx, .int .i64 by'], .agg #[.int .i64 cx, .int .i64 cy], .agg #[.int .i64 dx, .int .i64 dy], .pointer (some ⟨w.heap.size, 0, none⟩), .pointer (some ⟨w.heap.size + 1, 0, none⟩), .pointer (some ⟨w.heap.size + 1 + 1, 0, none⟩), .pointer (some ⟨w.heap.size + 1 + 1 + 1, 0, none⟩), .int .i64 0, .bool false, p 0, p 1, p 2, undef, undef, undef, undef, undef, undef, s0, s1, r 0, s3, s4, r 1, s6, s7, r 2, undef, undef, undef, undef, undef, undef, undef, undef, undef, undef, undef, undef, undef, undef, undef, undef, undef, undef, undef, undef, undef, undef, undef, undef, undef, undef, undef, undef, undef, undef, undef, undef, undef, undef, undef], defers := [] } ∧ Hid (Trio W w' 90 #[.float .f64 0, .float .f64 0, .float .f64 0] (RR ax ay bx by' cx cy dx dy) listed p r ∧ Lds listed (.agg #[.int .i64 ax, .int .i64 ay]) (.agg #[.int .i64 bx, .int .i64 by']) (.agg #[.int .i64 cx, .int .i64 cy]) (.agg #[.int .i64 dx, .int .i64 dy]) s0 s1 s3 s4 s6 s7)) ?hac ?hg ?start ?step ?fin
  case hac => exact edges_ok (by kernel_rfl)
  case hg => exact guards_ok (by kernel_rfl)
  case start => exact ⟨fun _ => undef, fun _ => undef, undef, undef, undef, undef, undef, undef, rfl, Trio.start ((New.refl W).drewN 1) _, Lds.start _⟩
  case step =>
    rintro listed a' wr i o ⟨p, r, s0, s1, s3, s4, s6, s7, rfl, H⟩ ho hr
    have hm := hr.mine
    have hah := hr.ahead
    have q0 := eight_keep H.out.1.new HS.out
    obtain ⟨e0, e1, e2, e3, e4, e5, e6, e7, e8⟩ := q0
    clear hr e0
    match i, ho with
    | 0, ho =>
      obtain rfl := Option.some.inj (show some _ = some o from ho)
      refine wpK fun K' hK => ?_
      clear hah ho
      have HM : Hid (listed.getD 0 true = false) := hm
      clear hm
      go_simp
      exact hK.out _ _ ⟨p, r, (.agg #[.int .i64 ax, .int .i64 ay]), s1, s3, s4, s6, s7, rfl, H.out.1.load HM.out (by intro j; omega) (by omega), H.out.2.set0 HM.out⟩
    | 1, ho =>
      obtain rfl := Option.some.inj (show some _ = some o from ho)
      refine wpK fun K' hK => ?_
      clear hah ho
      have HM : Hid (listed.getD 1 true = false) := hm
      clear hm
      go_simp
      exact hK.out _ _ ⟨p, r, s0, (.agg #[.int .i64 dx, .int .i64 dy]), s3, s4, s6, s7, rfl, H.out.1.load HM.out (by intro j; omega) (by omega), H.out.2.set1 HM.out⟩
    | 2, ho =>
      obtain rfl := Option.some.inj (show some _ = some o from ho)
      have d0 := H.out.2.l0 (hah ⟨0, .data⟩ (by simp) rfl)
      have d1 := H.out.2.l1 (hah ⟨1, .data⟩ (by simp) rfl)
      subst d0 d1
      refine wpK fun K' hK => ?_
      clear hah ho
      have HM : Hid (listed.getD 2 true = false) := hm
      clear hm
      go_simp
      refine (newRoughRow_any ax ay dx dy _ h1 h2 h7 h8).mono ?_
      rintro e w2 ⟨x, y, s, rfl, HC⟩
      dsimp only
      exact hK.out _ _ ⟨p, upd r 0 _, _, _, _, _, _, _, rfl, H.out.1.call rr_new 0 HM.out HC.out.1 (rr_mk0 HC.out.2), H.out.2.keep HM.out (by decide)⟩
    | 3, ho =>
      obtain rfl := Option.some.inj (show some _ = some o from ho)
      refine wpK fun K' hK => ?_
      clear hah ho
      have HM : Hid (listed.getD 3 true = false) := hm
      clear hm
      go_simp
      exact hK.out _ _ ⟨p, r, s0, s1, (.agg #[.int .i64 bx, .int .i64 by']), s4, s6, s7, rfl, H.out.1.load HM.out (by intro j; omega) (by omega), H.out.2.set3 HM.out⟩
    | 4, ho =>
      obtain rfl := Option.some.inj (show some _ = some o from ho)
      refine wpK fun K' hK => ?_
      clear hah ho
      have HM : Hid (listed.getD 4 true = false) := hm
      clear hm
      go_simp
      exact hK.out _ _ ⟨p, r, s0, s1, s3, (.agg #[.int .i64 dx, .int .i64 dy]), s6, s7, rfl, H.out.1.load HM.out (by intro j; omega) (by omega), H.out.2.set4 HM.out⟩
    | 5, ho =>
      obtain rfl := Option.some.inj (show some _ = some o from ho)
      have d0 := H.out.2.l3 (hah ⟨3, .data⟩ (by simp) rfl)
      have d1 := H.out.2.l4 (hah ⟨4, .data⟩ (by simp) rfl)
      subst d0 d1
      refine wpK fun K' hK => ?_
      clear hah ho
      have HM : Hid (listed.getD 5 true = false) := hm
      clear hm
      go_simp
      refine (newRoughRow_any bx by' dx dy _ h3 h4 h7 h8).mono ?_
      rintro e w2 ⟨x, y, s, rfl, HC⟩
      dsimp only
      exact hK.out _ _ ⟨p, upd r 1 _, _, _, _, _, _, _, rfl, H.out.1.call rr_new 1 HM.out HC.out.1 (rr_mk1 HC.out.2), H.out.2.keep HM.out (by decide)⟩
    | 6, ho =>
      obtain rfl := Option.some.inj (show some _ = some o from ho)
      refine wpK fun K' hK => ?_
      clear hah ho
      have HM : Hid (listed.getD 6 true = false) := hm
      clear hm
      go_simp
      exact hK.out _ _ ⟨p, r, s0, s1, s3, s4, (.agg #[.int .i64 cx, .int .i64 cy]), s7, rfl, H.out.1.load HM.out (by intro j; omega) (by omega), H.out.2.set6 HM.out⟩
    | 7, ho =>
      obtain rfl := Option.some.inj (show some _ = some o from ho)
      refine wpK fun K' hK => ?_
      clear hah ho
      have HM : Hid (listed.getD 7 true = false) := hm
      clear hm
      go_simp
      exact hK.out _ _ ⟨p, r, s0, s1, s3, s4, s6, (.agg #[.int .i64 dx, .int .i64 dy]), rfl, H.out.1.load HM.out (by intro j; omega) (by omega), H.out.2.set7 HM.out⟩
    | 8, ho =>
      obtain rfl := Option.some.inj (show some _ = some o from ho)
      have d0 := H.out.2.l6 (hah ⟨6, .data⟩ (by simp) rfl)
      have d1 := H.out.2.l7 (hah ⟨7, .data⟩ (by simp) rfl)
      subst d0 d1
      refine wpK fun K' hK => ?_
      clear hah ho
      have HM : Hid (listed.getD 8 true = false) := hm
      clear hm
      go_simp
      refine (newRoughRow_any cx cy dx dy _ h5 h6 h7 h8).mono ?_
      rintro e w2 ⟨x, y, s, rfl, HC⟩
      dsimp only
      exact hK.out _ _ ⟨p, upd r 2 _, _, _, _, _, _, _, rfl, H.out.1.call rr_new 2 HM.out HC.out.1 (rr_mk2 HC.out.2), H.out.2.keep HM.out (by decide)⟩
    | 9, ho =>
      obtain rfl := Option.some.inj (show some _ = some o from ho)
      refine wpK fun K' hK => ?_
      clear hah ho
      have HM : Hid (listed.getD 9 true = false) := hm
      clear hm
      go_simp
      exact hK.out _ _ ⟨upd p 0 _, r, s0, s1, s3, s4, s6, s7, rfl, H.out.1.alloc rr_new 0 HM.out, H.out.2.keep HM.out (by decide)⟩
    | 10, ho =>
      obtain rfl := Option.some.inj (show some _ = some o from ho)
      refine wpK fun K' hK => ?_
      clear hah ho
      have HM : Hid (listed.getD 10 true = false) := hm
      clear hm
      go_simp
      exact hK.out _ _ ⟨upd p 1 _, r, s0, s1, s3, s4, s6, s7, rfl, H.out.1.alloc rr_new 1 HM.out, H.out.2.keep HM.out (by decide)⟩
    | 11, ho =>
      obtain rfl := Option.some.inj (show some _ = some o from ho)
      refine wpK fun K' hK => ?_
      clear hah ho
      have HM : Hid (listed.getD 11 true = false) := hm
      clear hm
      go_simp
      exact hK.out _ _ ⟨upd p 2 _, r, s0, s1, s3, s4, s6, s7, rfl, H.out.1.alloc rr_new 2 HM.out, H.out.2.keep HM.out (by decide)⟩
    | 12, ho =>
      obtain rfl := Option.some.inj (show some _ = some o from ho)
      have da := hah ⟨9, .data⟩ (by simp) rfl
      have dc := hah ⟨2, .data⟩ (by simp) rfl
      obtain ⟨b, hp, hW, hz, _⟩ := H.out.1.ptr 0 da
      obtain ⟨⟨x0, x1, x2, hx⟩, hR⟩ := H.out.1.row 0 dc
      have hf : listed.getD 12 false = false := getD_false hm
      have hzz := hz hf
      have HM : Hid (Trio W (((wr.setCell ⟨b, 0, none⟩ x0).setCell ⟨b, 1, none⟩ x1).setCell ⟨b, 2, none⟩ x2) 90 #[.float .f64 0, .float .f64 0, .float .f64 0] (RR ax ay bx by' cx cy dx dy) (listed.setIfInBounds 12 true) p r ∧ Lds (listed.setIfInBounds 12 true) (.agg #[.int .i64 ax, .int .i64 ay]) (.agg #[.int .i64 bx, .int .i64 by']) (.agg #[.int .i64 cx, .int .i64 cy]) (.agg #[.int .i64 dx, .int .i64 dy]) s0 s1 s3 s4 s6 s7) := ⟨H.out.1.store rr_set 0 hm rfl hp hx hzz hW da dc, H.out.2.keep hm (by decide)⟩
      have HP : Hid (p 0 = .pointer (some ⟨b, 0, none⟩) ∧ r 0 = .agg #[x0, x1, x2]) := ⟨hp, hx⟩
      have c0 : wr.cell? ⟨b, 0, none⟩ = some (.float .f64 0) := by rw [cell_of_row wr b 0 _ _ (0, 0) hzz]; rfl
      have c1 : wr.cell? ⟨b, 1, none⟩ = some (.float .f64 0) := by rw [cell_of_row wr b 1 _ _ (0, 0) hzz]; rfl
      have c2 : wr.cell? ⟨b, 2, none⟩ = some (.float .f64 0) := by rw [cell_of_row wr b 2 _ _ (0, 0) hzz]; rfl
      have f0 := frozen_of_row wr b 0 _ _ hzz
      have f1 := frozen_of_row wr b 1 _ _ hzz
      have f2 := frozen_of_row wr b 2 _ _ hzz
      refine wpK fun K' hK => ?_
      obtain ⟨y0, y1, y2, ey⟩ := rr_form hR
      rw [hx] at ey
      simp only [Value.agg.injEq, Array.mk.injEq, List.cons.injEq, and_true] at ey
      obtain ⟨rfl, rfl, rfl⟩ := ey
      have hst := store_float
      clear hah ho hm da dc hz hf hzz hR hW e1 e2 e3 e4 e5 e6 e7 e8
      go_simp
      refine cast (congrArg (fun a => K' a _) ?_) (hK.out _ _ ⟨p, r, s0, s1, s3, s4, s6, s7, rfl, HM.out.1, HM.out.2⟩)
      rw [hp, hx]
    | 13, ho =>
      obtain rfl := Option.some.inj (show some _ = some o from ho)
      have da := hah ⟨10, .data⟩ (by simp) rfl
      have dc := hah ⟨5, .data⟩ (by simp) rfl
      obtain ⟨b, hp, hW, hz, _⟩ := H.out.1.ptr 1 da
      obtain ⟨⟨x0, x1, x2, hx⟩, hR⟩ := H.out.1.row 1 dc
      have hf : listed.getD 13 false = false := getD_false hm
      have hzz := hz hf
      have HM : Hid (Trio W (((wr.setCell ⟨b, 0, none⟩ x0).setCell ⟨b, 1, none⟩ x1).setCell ⟨b, 2, none⟩ x2) 90 #[.float .f64 0, .float .f64 0, .float .f64 0] (RR ax ay bx by' cx cy dx dy) (listed.setIfInBounds 13 true) p r ∧ Lds (listed.setIfInBounds 13 true) (.agg #[.int .i64 ax, .int .i64 ay]) (.agg #[.int .i64 bx, .int .i64 by']) (.agg #[.int .i64 cx, .int .i64 cy]) (.agg #[.int .i64 dx, .int .i64 dy]) s0 s1 s3 s4 s6 s7) := ⟨H.out.1.store rr_set 1 hm rfl hp hx hzz hW da dc, H.out.2.keep hm (by decide)⟩
      have HP : Hid (p 1 = .pointer (some ⟨b, 0, none⟩) ∧ r 1 = .agg #[x0, x1, x2]) := ⟨hp, hx⟩
      have c0 : wr.cell? ⟨b, 0, none⟩ = some (.float .f64 0) := by rw [cell_of_row wr b 0 _ _ (0, 0) hzz]; rfl
      have c1 : wr.cell? ⟨b, 1, none⟩ = some (.float .f64 0) := by rw [cell_of_row wr b 1 _ _ (0, 0) hzz]; rfl
      have c2 : wr.cell? ⟨b, 2, none⟩ = some (.float .f64 0) := by rw [cell_of_row wr b 2 _ _ (0, 0) hzz]; rfl
      have f0 := frozen_of_row wr b 0 _ _ hzz
      have f1 := frozen_of_row wr b 1 _ _ hzz
      have f2 := frozen_of_row wr b 2 _ _ hzz
      refine wpK fun K' hK => ?_
      obtain ⟨y0, y1, y2, ey⟩ := rr_form hR
      rw [hx] at ey
      simp only [Value.agg.injEq, Array.mk.injEq, List.cons.injEq, and_true] at ey
      obtain ⟨rfl, rfl, rfl⟩ := ey
      have hst := store_float
      clear hah ho hm da dc hz hf hzz hR hW e1 e2 e3 e4 e5 e6 e7 e8
      go_simp
      refine cast (congrArg (fun a => K' a _) ?_) (hK.out _ _ ⟨p, r, s0, s1, s3, s4, s6, s7, rfl, HM.out.1, HM.out.2⟩)
      rw [hp, hx]
    | 14, ho =>
      obtain rfl := Option.some.inj (show some _ = some o from ho)
      have da := hah ⟨11, .data⟩ (by simp) rfl
      have dc := hah ⟨8, .data⟩ (by simp) rfl
      obtain ⟨b, hp, hW, hz, _⟩ := H.out.1.ptr 2 da
      obtain ⟨⟨x0, x1, x2, hx⟩, hR⟩ := H.out.1.row 2 dc
      have hf : listed.getD 14 false = false := getD_false hm
      have hzz := hz hf
      have HM : Hid (Trio W (((wr.setCell ⟨b, 0, none⟩ x0).setCell ⟨b, 1, none⟩ x1).setCell ⟨b, 2, none⟩ x2) 90 #[.float .f64 0, .float .f64 0, .float .f64 0] (RR ax ay bx by' cx cy dx dy) (listed.setIfInBounds 14 true) p r ∧ Lds (listed.setIfInBounds 14 true) (.agg #[.int .i64 ax, .int .i64 ay]) (.agg #[.int .i64 bx, .int .i64 by']) (.agg #[.int .i64 cx, .int .i64 cy]) (.agg #[.int .i64 dx, .int .i64 dy]) s0 s1 s3 s4 s6 s7) := ⟨H.out.1.store rr_set 2 hm rfl hp hx hzz hW da dc, H.out.2.keep hm (by decide)⟩
      have HP : Hid (p 2 = .pointer (some ⟨b, 0, none⟩) ∧ r 2 = .agg #[x0, x1, x2]) := ⟨hp, hx⟩
      have c0 : wr.cell? ⟨b, 0, none⟩ = some (.float .f64 0) := by rw [cell_of_row wr b 0 _ _ (0, 0) hzz]; rfl
      have c1 : wr.cell? ⟨b, 1, none⟩ = some (.float .f64 0) := by rw [cell_of_row wr b 1 _ _ (0, 0) hzz]; rfl
      have c2 : wr.cell? ⟨b, 2, none⟩ = some (.float .f64 0) := by rw [cell_of_row wr b 2 _ _ (0, 0) hzz]; rfl
      have f0 := frozen_of_row wr b 0 _ _ hzz
      have f1 := frozen_of_row wr b 1 _ _ hzz
      have f2 := frozen_of_row wr b 2 _ _ hzz
      refine wpK fun K' hK => ?_
      obtain ⟨y0, y1, y2, ey⟩ := rr_form hR
      rw [hx] at ey
      simp only [Value.agg.injEq, Array.mk.injEq, List.cons.injEq, and_true] at ey
      obtain ⟨rfl, rfl, rfl⟩ := ey
      have hst := store_float
      clear hah ho hm da dc hz hf hzz hR hW e1 e2 e3 e4 e5 e6 e7 e8
      go_simp
      refine cast (congrArg (fun a => K' a _) ?_) (hK.out _ _ ⟨p, r, s0, s1, s3, s4, s6, s7, rfl, HM.out.1, HM.out.2⟩)
      rw [hp, hx]
    | n + 15, ho => exact absurd ho (by simp)
  case fin =>
    rintro listed a' wr ⟨p, r, s0, s1, s3, s4, s6, s7, rfl, H⟩ hall
    obtain ⟨x0, y0, t0, hr0, hu⟩ := (H.out.1.row 0 (hall 2 (by decide))).2
    obtain ⟨x1, y1, t1, hr1, hv⟩ := (H.out.1.row 1 (hall 5 (by decide))).2
    obtain ⟨x2, y2, t2, hr2, hw⟩ := (H.out.1.row 2 (hall 8 (by decide))).2
    obtain ⟨b0, hp0, _, _, hc0⟩ := H.out.1.ptr 0 (hall 9 (by decide))
    obtain ⟨b1, hp1, _, _, hc1⟩ := H.out.1.ptr 1 (hall 10 (by decide))
    obtain ⟨b2, hp2, _, _, hc2⟩ := H.out.1.ptr 2 (hall 11 (by decide))
    obtain ⟨_, _, _, i0, k0⟩ := hc0 (hall 12 (by decide))
    obtain ⟨_, _, _, i1, k1⟩ := hc1 (hall 13 (by decide))
    obtain ⟨_, _, _, i2, k2⟩ := hc2 (hall 14 (by decide))
    rw [hr0] at i0
    rw [hr1] at i1
    rw [hr2] at i2
    cases i0
    cases i1
    cases i2
    have HN : Hid (New w wr) := HW.out.trans' H.out.1.new
    have l0 := lt_of_block k0
    have l1 := lt_of_block k1
    have l2 := lt_of_block k2
    have a0 : wr.cell? ⟨b0, 0, none⟩ = some (.float .f64 x0.1) := by rw [cell_of_row wr b0 0 _ _ (0, 0) k0]; rfl
    have a1 : wr.cell? ⟨b0, 1, none⟩ = some (.float .f64 y0.1) := by rw [cell_of_row wr b0 1 _ _ (0, 0) k0]; rfl
    have a2 : wr.cell? ⟨b0, 2, none⟩ = some (.float .f64 t0.1) := by rw [cell_of_row wr b0 2 _ _ (0, 0) k0]; rfl
    have a3 : wr.cell? ⟨b1, 0, none⟩ = some (.float .f64 x1.1) := by rw [cell_of_row wr b1 0 _ _ (0, 0) k1]; rfl
    have a4 : wr.cell? ⟨b1, 1, none⟩ = some (.float .f64 y1.1) := by rw [cell_of_row wr b1 1 _ _ (0, 0) k1]; rfl
    have a5 : wr.cell? ⟨b1, 2, none⟩ = some (.float .f64 t1.1) := by rw [cell_of_row wr b1 2 _ _ (0, 0) k1]; rfl
    have a6 : wr.cell? ⟨b2, 0, none⟩ = some (.float .f64 x2.1) := by rw [cell_of_row wr b2 0 _ _ (0, 0) k2]; rfl
    have a7 : wr.cell? ⟨b2, 1, none⟩ = some (.float .f64 y2.1) := by rw [cell_of_row wr b2 1 _ _ (0, 0) k2]; rfl
    have a8 : wr.cell? ⟨b2, 2, none⟩ = some (.float .f64 t2.1) := by rw [cell_of_row wr b2 2 _ _ (0, 0) k2]; rfl
    have HU : Hid (RRow (ax - dx) (ay - dy) x0 y0 t0 ∧ RRow (bx - dx) (by' - dy) x1 y1 t1 ∧ RRow (cx - dx) (cy - dy) x2 y2 t2) := ⟨hu, hv, hw⟩
    rw [hp0, hp1, hp2]
    clear hu hv hw hc0 hc1 hc2 hr0 hr1 hr2 hp0 hp1 hp2 k0 k1 k2 H hall HS HW
    go_wp2_with fail
    refine (roughTerm_any _ HU.out.1 HU.out.2.1 HU.out.2.2).mono ?_
    rintro e w1 ⟨v1, z1, rfl, H1⟩
    have r1 := H1.out.1.rule
    go_wp2_with fail
    refine (roughTerm_any _ HU.out.2.1 HU.out.2.2 HU.out.1).mono ?_
    rintro e w2 ⟨v2, z2, rfl, H2⟩
    clear r1
    have r2 := (H1.out.1.trans' H2.out.1).rule
    go_wp2_with fail
    refine (roughTerm_any _ HU.out.2.2 HU.out.1 HU.out.2.1).mono ?_
    rintro e w3 ⟨v3, z3, rfl, H3⟩
    clear r2
    obtain ⟨a, d, b, t, s, zd, S, e1, e2, e3, e4, e5, fd, fs, q1, q2⟩ := circle_words H1.out.2 H2.out.2 H3.out.2
    have HQ : Hid ((S < zd * 2 ^ 49 → 0 < cdet ax ay bx by' cx cy dx dy) ∧ (zd * 2 ^ 49 < -S → cdet ax ay bx by' cx cy dx dy < 0) ∧ New w w3) := ⟨q1, q2, ((HN.out.trans' H1.out.1).trans' H2.out.1).trans' H3.out.1⟩
    have g1 := fadd e1 78
    have g2 := fadd e2 78
    have g3 := fadd e3 78
    have g4 := fadd e4 78
    have g5 := fmul e5 78
    clear q1 q2 e1 e2 e3 e4 e5 H1 H2 H3 HU HN a0 a1 a2 a3 a4 a5 a6 a7 a8 l0 l1 l2
    go_wp2_with fail
    refine (signBeyond_any d s zd S 49 _ fd fs).mono ?_
    rintro e w5 ⟨sg, bb, rfl, rfl, H5⟩
    go_wp2_with fail
    go_ret2
    refine ⟨sg, bb, rfl, HQ.out.2.2, fun hb => ?_⟩
    rcases H5.out hb with ⟨rfl, h⟩ | ⟨rfl, h⟩
    · have := HQ.out.1 h
      unfold sgn; rw [if_neg (by omega), if_neg (by omega)]
    · have := HQ.out.2.1 h
      unfold sgn; rw [if_pos this]

end Go.Proofs.YtgeoffpcmkofkaaGreat
/- The walk of 'exactCircle'. -/
namespace Go.Proofs.YtgeoffpcmkofkaaGreat
open Go.RowKit Fl
set_option maxRecDepth 100000

/-- The rows, not rounded. -/
def ER (ax ay bx by' cx cy dx dy : Int) (j : Fin 3) (v : Value) (w : World) : Prop :=
  ∃ (g1 g2 g3 c3 : Nat) (x y s : Ws), v = .agg #[.slice (some ⟨g1, 0, none⟩) x.length 2, .slice (some ⟨g2, 0, none⟩) y.length 2, .slice (some ⟨g3, 0, none⟩) s.length c3] ∧ ERow w ((if j = 0 then ax else if j = 1 then bx else cx) - dx) ((if j = 0 then ay else if j = 1 then by' else cy) - dy) g1 g2 g3 c3 x y s

section
variable {ax ay bx by' cx cy dx dy : Int}
theorem er_new : ∀ (j : Fin 3) (v : Value) (w w' : World), ER ax ay bx by' cx cy dx dy j v w → New w w' → ER ax ay bx by' cx cy dx dy j v w' := by
  rintro j v w w' ⟨g1, g2, g3, c3, x, y, s, e, h⟩ hn
  exact ⟨g1, g2, g3, c3, x, y, s, e, h.kept hn⟩
theorem er_set : ∀ (j : Fin 3) (v : Value) (w : World) (b : Nat) (x0 x1 x2 : Value), ER ax ay bx by' cx cy dx dy j v w → w.heap[b]? = some (.cells #[.slice none 0 0, .slice none 0 0, .slice none 0 0] 94 (0, 0)) → ER ax ay bx by' cx cy dx dy j v (((w.setCell ⟨b, 0, none⟩ x0).setCell ⟨b, 1, none⟩ x1).setCell ⟨b, 2, none⟩ x2) := by
  rintro j v w b x0 x1 x2 ⟨g1, g2, g3, c3, x, y, s, e, h⟩ hb
  exact ⟨g1, g2, g3, c3, x, y, s, e, h.nx.set3 (h.nx.lst.ne_block hb (by decide)) _ _ _, h.ny.set3 (h.ny.lst.ne_block hb (by decide)) _ _ _, h.ns.set3 (h.ns.lst.ne_block hb (by decide)) _ _ _⟩
theorem er_mk0 {g1 g2 g3 c3 : Nat} {x y s : Ws} {w : World} (h : ERow w (ax - dx) (ay - dy) g1 g2 g3 c3 x y s) : ER ax ay bx by' cx cy dx dy 0 (.agg #[.slice (some ⟨g1, 0, none⟩) x.length 2, .slice (some ⟨g2, 0, none⟩) y.length 2, .slice (some ⟨g3, 0, none⟩) s.length c3]) w := ⟨_, _, _, _, _, _, _, rfl, h⟩
theorem er_mk1 {g1 g2 g3 c3 : Nat} {x y s : Ws} {w : World} (h : ERow w (bx - dx) (by' - dy) g1 g2 g3 c3 x y s) : ER ax ay bx by' cx cy dx dy 1 (.agg #[.slice (some ⟨g1, 0, none⟩) x.length 2, .slice (some ⟨g2, 0, none⟩) y.length 2, .slice (some ⟨g3, 0, none⟩) s.length c3]) w := ⟨_, _, _, _, _, _, _, rfl, h⟩
theorem er_mk2 {g1 g2 g3 c3 : Nat} {x y s : Ws} {w : World} (h : ERow w (cx - dx) (cy - dy) g1 g2 g3 c3 x y s) : ER ax ay bx by' cx cy dx dy 2 (.agg #[.slice (some ⟨g1, 0, none⟩) x.length 2, .slice (some ⟨g2, 0, none⟩) y.length 2, .slice (some ⟨g3, 0, none⟩) s.length c3]) w := ⟨_, _, _, _, _, _, _, rfl, h⟩
theorem er_form {j : Fin 3} {v : Value} {w : World} (h : ER ax ay bx by' cx cy dx dy j v w) : ∃ (y0 : Nat) (n0 k0 : Nat) (y1 : Nat) (n1 k1 : Nat) (y2 : Nat) (n2 k2 : Nat), v = .agg #[.slice (some ⟨y0, 0, none⟩) n0 k0, .slice (some ⟨y1, 0, none⟩) n1 k1, .slice (some ⟨y2, 0, none⟩) n2 k2] := by
  obtain ⟨g1, g2, g3, c3, x, y, s, e, _⟩ := h
  exact ⟨_, _, _, _, _, _, _, _, _, e⟩
end

theorem nine_keep {W w' : World} {b0 b1 b2 : Nat} {p0 p1 p2 q0 q1 q2 r0 r1 r2 : Value} (hn : New W w') (hs : b0 < W.heap.size ∧ b1 < W.heap.size ∧ b2 < W.heap.size ∧ W.cell? ⟨b0, 0, none⟩ = some p0 ∧ W.cell? ⟨b0, 1, none⟩ = some p1 ∧ W.cell? ⟨b0, 2, none⟩ = some p2 ∧ W.cell? ⟨b1, 0, none⟩ = some q0 ∧ W.cell? ⟨b1, 1, none⟩ = some q1 ∧ W.cell? ⟨b1, 2, none⟩ = some q2 ∧ W.cell? ⟨b2, 0, none⟩ = some r0 ∧ W.cell? ⟨b2, 1, none⟩ = some r1 ∧ W.cell? ⟨b2, 2, none⟩ = some r2) :
    b0 < w'.heap.size ∧ b1 < w'.heap.size ∧ b2 < w'.heap.size ∧ w'.cell? ⟨b0, 0, none⟩ = some p0 ∧ w'.cell? ⟨b0, 1, none⟩ = some p1 ∧ w'.cell? ⟨b0, 2, none⟩ = some p2 ∧ w'.cell? ⟨b1, 0, none⟩ = some q0 ∧ w'.cell? ⟨b1, 1, none⟩ = some q1 ∧ w'.cell? ⟨b1, 2, none⟩ = some q2 ∧ w'.cell? ⟨b2, 0, none⟩ = some r0 ∧ w'.cell? ⟨b2, 1, none⟩ = some r1 ∧ w'.cell? ⟨b2, 2, none⟩ = some r2 := by
  obtain ⟨h0, h1, h2, a0, a1, a2, a3, a4, a5, a6, a7, a8⟩ := hs
  have := hn.size
  refine ⟨by omega, by omega, by omega, ?_, ?_, ?_, ?_, ?_, ?_, ?_, ?_, ?_⟩
  all_goals (rw [hn.rule _ _ (by omega)]; assumption)

set_option maxHeartbeats 6400000 in
theorem exactCircle_any (ax ay bx by' cx cy dx dy : Int) (w : World) (h1 : Cd ax) (h2 : Cd ay) (h3 : Cd bx) (h4 : Cd by') (h5 : Cd cx) (h6 : Cd cy) (h7 : Cd dx) (h8 : Cd dy) :
    Calls Tryz.prog 35 #[.agg #[.int .i64 ax, .int .i64 ay], .agg #[.int .i64 bx, .int .i64 by'], .agg #[.int .i64 cx, .int .i64 cy], .agg #[.int .i64 dx, .int .i64 dy]] w fun e w' =>
      e = .returned (.int .i64 (sgn (cdet ax ay bx by' cx cy dx dy))) ∧ Hid (New w w') := by
  obtain ⟨W, hW⟩ : ∃ W, W = (((w.alloc (.cells #[.int .i64 ax, .int .i64 ay] 36)).alloc (.cells #[.int .i64 bx, .int .i64 by'] 36)).alloc (.cells #[.int .i64 cx, .int .i64 cy] 36)).alloc (.cells #[.int .i64 dx, .int .i64 dy] 36) := ⟨_, rfl⟩
  have HW : Hid (New w W) := by rw [hW]; exact (((New.alloc _ _).alloc' _).alloc' _).alloc' _
  have HS : Hid (w.heap.size + 1 + 1 + 1 < W.heap.size ∧ W.cell? ⟨w.heap.size, 0, none⟩ = some (.int .i64 ax) ∧ W.cell? ⟨w.heap.size, 1, none⟩ = some (.int .i64 ay) ∧ W.cell? ⟨w.heap.size + 1, 0, none⟩ = some (.int .i64 bx) ∧ W.cell? ⟨w.heap.size + 1, 1, none⟩ = some (.int .i64 by') ∧ W.cell? ⟨w.heap.size + 1 + 1, 0, none⟩ = some (.int .i64 cx) ∧ W.cell? ⟨w.heap.size + 1 + 1, 1, none⟩ = some (.int .i64 cy) ∧ W.cell? ⟨w.heap.size + 1 + 1 + 1, 0, none⟩ = some (.int .i64 dx) ∧ W.cell? ⟨w.heap.size + 1 + 1 + 1, 1, none⟩ = some (.int .i64 dy)) := by
    rw [hW]
    refine ⟨by simp, ?_, ?_, ?_, ?_, ?_, ?_, ?_, ?_⟩ <;> go_simp
  go_enter Tryz.func35, Tryz.ntmps35
  go_wp2_with fail
  rw [← hW]
  clear hW
  refine wp_region_inv (by kernel_rfl) (fun listed a' w' => ∃ (p r : Fin 3 → Value) (s0 s1 s3 s4 s6 s7 : Value), a' = { tmps := #[.agg #[.int .i64 ax, .int .i64 ay], .agg #[.int .i64 bx, .int .i64 by'], .agg #[.int .i64 cx, .int .i64 cy], .agg #[.int .i64 dx, .int .i64 dy], .pointer (some ⟨w.heap.size, 0, none⟩), .pointer (some ⟨w.heap.size + 1, 0, none⟩), .pointer (some ⟨w.heap.size + 1 + 1, 0, none⟩), .pointer (some ⟨w.heap.size + 1 + 1 + 1, 0, none⟩), .int .i64 0, p 0, p 1, p 2, s0, s1, r 0, s3, s4, r 1, s6, s7, r 2, undef, undef, undef, undef, undef, undef, undef, undef, undef, undef, undef, undef, undef, undef, undef], defers := [] } ∧ Hid (Trio W w' 94 #[.slice none 0 0, .slice none 0 0, .slice none 0 0] (ER ax ay bx by' cx cy dx dy) listed p r ∧ Lds listed (.agg #[.int .i64 ax, .int .i64 ay]) (.agg #[.int .i64 bx, .int .i64 by']) (.agg #[.int .i64 cx, .int .i64 cy]) (.agg #[.int .i64 dx, .int .i64 dy]) s0 s1 s3 s4 s6 s7)) ?hac ?hg ?start ?step ?fin
  case hac => exact edges_ok (by kernel_rfl)
  case hg => exact guards_ok (by kernel_rfl)
  case start => exact ⟨fun _ => undef, fun _ => undef, undef, undef, undef, undef, undef, undef, rfl, Trio.start ((New.refl W).drewN 1) _, Lds.start _⟩
  case step =>
    rintro listed a' wr i o ⟨p, r, s0, s1, s3, s4, s6, s7, rfl, H⟩ ho hr
    have hm := hr.mine
    have hah := hr.ahead
    have q0 := eight_keep H.out.1.new HS.out
    obtain ⟨e0, e1, e2, e3, e4, e5, e6, e7, e8⟩ := q0
    clear hr e0
    match i, ho with
    | 0, ho =>
      obtain rfl := Option.some.inj (show some _ = some o from ho)
      refine wpK fun K' hK => ?_
      clear hah ho
      have HM : Hid (listed.getD 0 true = false) := hm
      clear hm
      go_simp
      exact hK.out _ _ ⟨p, r, (.agg #[.int .i64 ax, .int .i64 ay]), s1, s3, s4, s6, s7, rfl, H.out.1.load HM.out (by intro j; omega) (by omega), H.out.2.set0 HM.out⟩
    | 1, ho =>
      obtain rfl := Option.some.inj (show some _ = some o from ho)
      refine wpK fun K' hK => ?_
      clear hah ho
      have HM : Hid (listed.getD 1 true = false) := hm
      clear hm
      go_simp
      exact hK.out _ _ ⟨p, r, s0, (.agg #[.int .i64 dx, .int .i64 dy]), s3, s4, s6, s7, rfl, H.out.1.load HM.out (by intro j; omega) (by omega), H.out.2.set1 HM.out⟩
    | 2, ho =>
      obtain rfl := Option.some.inj (show some _ = some o from ho)
      have d0 := H.out.2.l0 (hah ⟨0, .data⟩ (by simp) rfl)
      have d1 := H.out.2.l1 (hah ⟨1, .data⟩ (by simp) rfl)
      subst d0 d1
      refine wpK fun K' hK => ?_
      clear hah ho
      have HM : Hid (listed.getD 2 true = false) := hm
      clear hm
      go_simp
      refine (newExactRow_any ax ay dx dy _ h1 h2 h7 h8).mono ?_
      rintro e w2 ⟨g1, g2, g3, c3, x, y, s, rfl, HC⟩
      dsimp only
      exact hK.out _ _ ⟨p, upd r 0 _, _, _, _, _, _, _, rfl, H.out.1.call er_new 0 HM.out HC.out.1 (er_mk0 HC.out.2), H.out.2.keep HM.out (by decide)⟩
    | 3, ho =>
      obtain rfl := Option.some.inj (show some _ = some o from ho)
      refine wpK fun K' hK => ?_
      clear hah ho
      have HM : Hid (listed.getD 3 true = false) := hm
      clear hm
      go_simp
      exact hK.out _ _ ⟨p, r, s0, s1, (.agg #[.int .i64 bx, .int .i64 by']), s4, s6, s7, rfl, H.out.1.load HM.out (by intro j; omega) (by omega), H.out.2.set3 HM.out⟩
    | 4, ho =>
      obtain rfl := Option.some.inj (show some _ = some o from ho)
      refine wpK fun K' hK => ?_
      clear hah ho
      have HM : Hid (listed.getD 4 true = false) := hm
      clear hm
      go_simp
      exact hK.out _ _ ⟨p, r, s0, s1, s3, (.agg #[.int .i64 dx, .int .i64 dy]), s6, s7, rfl, H.out.1.load HM.out (by intro j; omega) (by omega), H.out.2.set4 HM.out⟩
    | 5, ho =>
      obtain rfl := Option.some.inj (show some _ = some o from ho)
      have d0 := H.out.2.l3 (hah ⟨3, .data⟩ (by simp) rfl)
      have d1 := H.out.2.l4 (hah ⟨4, .data⟩ (by simp) rfl)
      subst d0 d1
      refine wpK fun K' hK => ?_
      clear hah ho
      have HM : Hid (listed.getD 5 true = false) := hm
      clear hm
      go_simp
      refine (newExactRow_any bx by' dx dy _ h3 h4 h7 h8).mono ?_
      rintro e w2 ⟨g1, g2, g3, c3, x, y, s, rfl, HC⟩
      dsimp only
      exact hK.out _ _ ⟨p, upd r 1 _, _, _, _, _, _, _, rfl, H.out.1.call er_new 1 HM.out HC.out.1 (er_mk1 HC.out.2), H.out.2.keep HM.out (by decide)⟩
    | 6, ho =>
      obtain rfl := Option.some.inj (show some _ = some o from ho)
      refine wpK fun K' hK => ?_
      clear hah ho
      have HM : Hid (listed.getD 6 true = false) := hm
      clear hm
      go_simp
      exact hK.out _ _ ⟨p, r, s0, s1, s3, s4, (.agg #[.int .i64 cx, .int .i64 cy]), s7, rfl, H.out.1.load HM.out (by intro j; omega) (by omega), H.out.2.set6 HM.out⟩
    | 7, ho =>
      obtain rfl := Option.some.inj (show some _ = some o from ho)
      refine wpK fun K' hK => ?_
      clear hah ho
      have HM : Hid (listed.getD 7 true = false) := hm
      clear hm
      go_simp
      exact hK.out _ _ ⟨p, r, s0, s1, s3, s4, s6, (.agg #[.int .i64 dx, .int .i64 dy]), rfl, H.out.1.load HM.out (by intro j; omega) (by omega), H.out.2.set7 HM.out⟩
    | 8, ho =>
      obtain rfl := Option.some.inj (show some _ = some o from ho)
      have d0 := H.out.2.l6 (hah ⟨6, .data⟩ (by simp) rfl)
      have d1 := H.out.2.l7 (hah ⟨7, .data⟩ (by simp) rfl)
      subst d0 d1
      refine wpK fun K' hK => ?_
      clear hah ho
      have HM : Hid (listed.getD 8 true = false) := hm
      clear hm
      go_simp
      refine (newExactRow_any cx cy dx dy _ h5 h6 h7 h8).mono ?_
      rintro e w2 ⟨g1, g2, g3, c3, x, y, s, rfl, HC⟩
      dsimp only
      exact hK.out _ _ ⟨p, upd r 2 _, _, _, _, _, _, _, rfl, H.out.1.call er_new 2 HM.out HC.out.1 (er_mk2 HC.out.2), H.out.2.keep HM.out (by decide)⟩
    | 9, ho =>
      obtain rfl := Option.some.inj (show some _ = some o from ho)
      refine wpK fun K' hK => ?_
      clear hah ho
      have HM : Hid (listed.getD 9 true = false) := hm
      clear hm
      go_simp
      exact hK.out _ _ ⟨upd p 0 _, r, s0, s1, s3, s4, s6, s7, rfl, H.out.1.alloc er_new 0 HM.out, H.out.2.keep HM.out (by decide)⟩
    | 10, ho =>
      obtain rfl := Option.some.inj (show some _ = some o from ho)
      refine wpK fun K' hK => ?_
      clear hah ho
      have HM : Hid (listed.getD 10 true = false) := hm
      clear hm
      go_simp
      exact hK.out _ _ ⟨upd p 1 _, r, s0, s1, s3, s4, s6, s7, rfl, H.out.1.alloc er_new 1 HM.out, H.out.2.keep HM.out (by decide)⟩
    | 11, ho =>
      obtain rfl := Option.some.inj (show some _ = some o from ho)
      refine wpK fun K' hK => ?_
      clear hah ho
      have HM : Hid (listed.getD 11 true = false) := hm
      clear hm
      go_simp
      exact hK.out _ _ ⟨upd p 2 _, r, s0, s1, s3, s4, s6, s7, rfl, H.out.1.alloc er_new 2 HM.out, H.out.2.keep HM.out (by decide)⟩
    | 12, ho =>
      obtain rfl := Option.some.inj (show some _ = some o from ho)
      have da := hah ⟨9, .data⟩ (by simp) rfl
      have dc := hah ⟨2, .data⟩ (by simp) rfl
      obtain ⟨b, hp, hW, hz, _⟩ := H.out.1.ptr 0 da
      obtain ⟨⟨x0, x1, x2, hx⟩, hR⟩ := H.out.1.row 0 dc
      have hf : listed.getD 12 false = false := getD_false hm
      have hzz := hz hf
      have HM : Hid (Trio W (((wr.setCell ⟨b, 0, none⟩ x0).setCell ⟨b, 1, none⟩ x1).setCell ⟨b, 2, none⟩ x2) 94 #[.slice none 0 0, .slice none 0 0, .slice none 0 0] (ER ax ay bx by' cx cy dx dy) (listed.setIfInBounds 12 true) p r ∧ Lds (listed.setIfInBounds 12 true) (.agg #[.int .i64 ax, .int .i64 ay]) (.agg #[.int .i64 bx, .int .i64 by']) (.agg #[.int .i64 cx, .int .i64 cy]) (.agg #[.int .i64 dx, .int .i64 dy]) s0 s1 s3 s4 s6 s7) := ⟨H.out.1.store er_set 0 hm rfl hp hx hzz hW da dc, H.out.2.keep hm (by decide)⟩
      have HP : Hid (p 0 = .pointer (some ⟨b, 0, none⟩) ∧ r 0 = .agg #[x0, x1, x2]) := ⟨hp, hx⟩
      have c0 : wr.cell? ⟨b, 0, none⟩ = some (.slice none 0 0) := by rw [cell_of_row wr b 0 _ _ (0, 0) hzz]; rfl
      have c1 : wr.cell? ⟨b, 1, none⟩ = some (.slice none 0 0) := by rw [cell_of_row wr b 1 _ _ (0, 0) hzz]; rfl
      have c2 : wr.cell? ⟨b, 2, none⟩ = some (.slice none 0 0) := by rw [cell_of_row wr b 2 _ _ (0, 0) hzz]; rfl
      have f0 := frozen_of_row wr b 0 _ _ hzz
      have f1 := frozen_of_row wr b 1 _ _ hzz
      have f2 := frozen_of_row wr b 2 _ _ hzz
      refine wpK fun K' hK => ?_
      obtain ⟨y0, n0, k0, y1, n1, k1, y2, n2, k2, ey⟩ := er_form hR
      rw [hx] at ey
      simp only [Value.agg.injEq, Array.mk.injEq, List.cons.injEq, and_true] at ey
      obtain ⟨rfl, rfl, rfl⟩ := ey
      clear hah ho hm da dc hz hf hzz hR hW e1 e2 e3 e4 e5 e6 e7 e8
      go_simp
      refine cast (congrArg (fun a => K' a _) ?_) (hK.out _ _ ⟨p, r, s0, s1, s3, s4, s6, s7, rfl, HM.out.1, HM.out.2⟩)
      rw [hp, hx]
    | 13, ho =>
      obtain rfl := Option.some.inj (show some _ = some o from ho)
      have da := hah ⟨10, .data⟩ (by simp) rfl
      have dc := hah ⟨5, .data⟩ (by simp) rfl
      obtain ⟨b, hp, hW, hz, _⟩ := H.out.1.ptr 1 da
      obtain ⟨⟨x0, x1, x2, hx⟩, hR⟩ := H.out.1.row 1 dc
      have hf : listed.getD 13 false = false := getD_false hm
      have hzz := hz hf
      have HM : Hid (Trio W (((wr.setCell ⟨b, 0, none⟩ x0).setCell ⟨b, 1, none⟩ x1).setCell ⟨b, 2, none⟩ x2) 94 #[.slice none 0 0, .slice none 0 0, .slice none 0 0] (ER ax ay bx by' cx cy dx dy) (listed.setIfInBounds 13 true) p r ∧ Lds (listed.setIfInBounds 13 true) (.agg #[.int .i64 ax, .int .i64 ay]) (.agg #[.int .i64 bx, .int .i64 by']) (.agg #[.int .i64 cx, .int .i64 cy]) (.agg #[.int .i64 dx, .int .i64 dy]) s0 s1 s3 s4 s6 s7) := ⟨H.out.1.store er_set 1 hm rfl hp hx hzz hW da dc, H.out.2.keep hm (by decide)⟩
      have HP : Hid (p 1 = .pointer (some ⟨b, 0, none⟩) ∧ r 1 = .agg #[x0, x1, x2]) := ⟨hp, hx⟩
      have c0 : wr.cell? ⟨b, 0, none⟩ = some (.slice none 0 0) := by rw [cell_of_row wr b 0 _ _ (0, 0) hzz]; rfl
      have c1 : wr.cell? ⟨b, 1, none⟩ = some (.slice none 0 0) := by rw [cell_of_row wr b 1 _ _ (0, 0) hzz]; rfl
      have c2 : wr.cell? ⟨b, 2, none⟩ = some (.slice none 0 0) := by rw [cell_of_row wr b 2 _ _ (0, 0) hzz]; rfl
      have f0 := frozen_of_row wr b 0 _ _ hzz
      have f1 := frozen_of_row wr b 1 _ _ hzz
      have f2 := frozen_of_row wr b 2 _ _ hzz
      refine wpK fun K' hK => ?_
      obtain ⟨y0, n0, k0, y1, n1, k1, y2, n2, k2, ey⟩ := er_form hR
      rw [hx] at ey
      simp only [Value.agg.injEq, Array.mk.injEq, List.cons.injEq, and_true] at ey
      obtain ⟨rfl, rfl, rfl⟩ := ey
      clear hah ho hm da dc hz hf hzz hR hW e1 e2 e3 e4 e5 e6 e7 e8
      go_simp
      refine cast (congrArg (fun a => K' a _) ?_) (hK.out _ _ ⟨p, r, s0, s1, s3, s4, s6, s7, rfl, HM.out.1, HM.out.2⟩)
      rw [hp, hx]
    | 14, ho =>
      obtain rfl := Option.some.inj (show some _ = some o from ho)
      have da := hah ⟨11, .data⟩ (by simp) rfl
      have dc := hah ⟨8, .data⟩ (by simp) rfl
      obtain ⟨b, hp, hW, hz, _⟩ := H.out.1.ptr 2 da
      obtain ⟨⟨x0, x1, x2, hx⟩, hR⟩ := H.out.1.row 2 dc
      have hf : listed.getD 14 false = false := getD_false hm
      have hzz := hz hf
      have HM : Hid (Trio W (((wr.setCell ⟨b, 0, none⟩ x0).setCell ⟨b, 1, none⟩ x1).setCell ⟨b, 2, none⟩ x2) 94 #[.slice none 0 0, .slice none 0 0, .slice none 0 0] (ER ax ay bx by' cx cy dx dy) (listed.setIfInBounds 14 true) p r ∧ Lds (listed.setIfInBounds 14 true) (.agg #[.int .i64 ax, .int .i64 ay]) (.agg #[.int .i64 bx, .int .i64 by']) (.agg #[.int .i64 cx, .int .i64 cy]) (.agg #[.int .i64 dx, .int .i64 dy]) s0 s1 s3 s4 s6 s7) := ⟨H.out.1.store er_set 2 hm rfl hp hx hzz hW da dc, H.out.2.keep hm (by decide)⟩
      have HP : Hid (p 2 = .pointer (some ⟨b, 0, none⟩) ∧ r 2 = .agg #[x0, x1, x2]) := ⟨hp, hx⟩
      have c0 : wr.cell? ⟨b, 0, none⟩ = some (.slice none 0 0) := by rw [cell_of_row wr b 0 _ _ (0, 0) hzz]; rfl
      have c1 : wr.cell? ⟨b, 1, none⟩ = some (.slice none 0 0) := by rw [cell_of_row wr b 1 _ _ (0, 0) hzz]; rfl
      have c2 : wr.cell? ⟨b, 2, none⟩ = some (.slice none 0 0) := by rw [cell_of_row wr b 2 _ _ (0, 0) hzz]; rfl
      have f0 := frozen_of_row wr b 0 _ _ hzz
      have f1 := frozen_of_row wr b 1 _ _ hzz
      have f2 := frozen_of_row wr b 2 _ _ hzz
      refine wpK fun K' hK => ?_
      obtain ⟨y0, n0, k0, y1, n1, k1, y2, n2, k2, ey⟩ := er_form hR
      rw [hx] at ey
      simp only [Value.agg.injEq, Array.mk.injEq, List.cons.injEq, and_true] at ey
      obtain ⟨rfl, rfl, rfl⟩ := ey
      clear hah ho hm da dc hz hf hzz hR hW e1 e2 e3 e4 e5 e6 e7 e8
      go_simp
      refine cast (congrArg (fun a => K' a _) ?_) (hK.out _ _ ⟨p, r, s0, s1, s3, s4, s6, s7, rfl, HM.out.1, HM.out.2⟩)
      rw [hp, hx]
    | n + 15, ho => exact absurd ho (by simp)
  case fin =>
    rintro listed a' wr ⟨p, r, s0', s1', s3', s4', s6', s7', rfl, H⟩ hall
    obtain ⟨x0, y0, s0, c0, k0, l0, m0, hr0, hu⟩ := (H.out.1.row 0 (hall 2 (by decide))).2
    obtain ⟨x1, y1, s1, c1, k1, l1, m1, hr1, hv⟩ := (H.out.1.row 1 (hall 5 (by decide))).2
    obtain ⟨x2, y2, s2, c2, k2, l2, m2, hr2, hw⟩ := (H.out.1.row 2 (hall 8 (by decide))).2
    obtain ⟨b0, hp0, _, _, hc0⟩ := H.out.1.ptr 0 (hall 9 (by decide))
    obtain ⟨b1, hp1, _, _, hc1⟩ := H.out.1.ptr 1 (hall 10 (by decide))
    obtain ⟨b2, hp2, _, _, hc2⟩ := H.out.1.ptr 2 (hall 11 (by decide))
    obtain ⟨_, _, _, i0, e0⟩ := hc0 (hall 12 (by decide))
    obtain ⟨_, _, _, i1, e1⟩ := hc1 (hall 13 (by decide))
    obtain ⟨_, _, _, i2, e2⟩ := hc2 (hall 14 (by decide))
    rw [hr0] at i0
    rw [hr1] at i1
    rw [hr2] at i2
    cases i0
    cases i1
    cases i2
    have a0 : wr.cell? ⟨b0, 0, none⟩ = some (.slice (some ⟨x0, 0, none⟩) k0.length 2) := by rw [cell_of_row wr b0 0 _ _ (0, 0) e0]; rfl
    have a1 : wr.cell? ⟨b0, 1, none⟩ = some (.slice (some ⟨y0, 0, none⟩) l0.length 2) := by rw [cell_of_row wr b0 1 _ _ (0, 0) e0]; rfl
    have a2 : wr.cell? ⟨b0, 2, none⟩ = some (.slice (some ⟨s0, 0, none⟩) m0.length c0) := by rw [cell_of_row wr b0 2 _ _ (0, 0) e0]; rfl
    have a3 : wr.cell? ⟨b1, 0, none⟩ = some (.slice (some ⟨x1, 0, none⟩) k1.length 2) := by rw [cell_of_row wr b1 0 _ _ (0, 0) e1]; rfl
    have a4 : wr.cell? ⟨b1, 1, none⟩ = some (.slice (some ⟨y1, 0, none⟩) l1.length 2) := by rw [cell_of_row wr b1 1 _ _ (0, 0) e1]; rfl
    have a5 : wr.cell? ⟨b1, 2, none⟩ = some (.slice (some ⟨s1, 0, none⟩) m1.length c1) := by rw [cell_of_row wr b1 2 _ _ (0, 0) e1]; rfl
    have a6 : wr.cell? ⟨b2, 0, none⟩ = some (.slice (some ⟨x2, 0, none⟩) k2.length 2) := by rw [cell_of_row wr b2 0 _ _ (0, 0) e2]; rfl
    have a7 : wr.cell? ⟨b2, 1, none⟩ = some (.slice (some ⟨y2, 0, none⟩) l2.length 2) := by rw [cell_of_row wr b2 1 _ _ (0, 0) e2]; rfl
    have a8 : wr.cell? ⟨b2, 2, none⟩ = some (.slice (some ⟨s2, 0, none⟩) m2.length c2) := by rw [cell_of_row wr b2 2 _ _ (0, 0) e2]; rfl
    have hS : b0 < wr.heap.size ∧ b1 < wr.heap.size ∧ b2 < wr.heap.size ∧ wr.cell? ⟨b0, 0, none⟩ = some (.slice (some ⟨x0, 0, none⟩) k0.length 2) ∧ wr.cell? ⟨b0, 1, none⟩ = some (.slice (some ⟨y0, 0, none⟩) l0.length 2) ∧ wr.cell? ⟨b0, 2, none⟩ = some (.slice (some ⟨s0, 0, none⟩) m0.length c0) ∧ wr.cell? ⟨b1, 0, none⟩ = some (.slice (some ⟨x1, 0, none⟩) k1.length 2) ∧ wr.cell? ⟨b1, 1, none⟩ = some (.slice (some ⟨y1, 0, none⟩) l1.length 2) ∧ wr.cell? ⟨b1, 2, none⟩ = some (.slice (some ⟨s1, 0, none⟩) m1.length c1) ∧ wr.cell? ⟨b2, 0, none⟩ = some (.slice (some ⟨x2, 0, none⟩) k2.length 2) ∧ wr.cell? ⟨b2, 1, none⟩ = some (.slice (some ⟨y2, 0, none⟩) l2.length 2) ∧ wr.cell? ⟨b2, 2, none⟩ = some (.slice (some ⟨s2, 0, none⟩) m2.length c2) := ⟨lt_of_block e0, lt_of_block e1, lt_of_block e2, a0, a1, a2, a3, a4, a5, a6, a7, a8⟩
    have HN : Hid (New w wr.drew) := (HW.out.trans' H.out.1.new).drewN 1
    have HD : Hid (New wr wr.drew) := (New.refl wr).drewN 1
    have HU : Hid (ERow wr.drew (ax - dx) (ay - dy) x0 y0 s0 c0 k0 l0 m0 ∧ ERow wr.drew (bx - dx) (by' - dy) x1 y1 s1 c1 k1 l1 m1 ∧ ERow wr.drew (cx - dx) (cy - dy) x2 y2 s2 c2 k2 l2 m2) := ⟨hu.kept HD.out, hv.kept HD.out, hw.kept HD.out⟩
    rw [hp0, hp1, hp2]
    clear a0 a1 a2 a3 a4 a5 a6 a7 a8 hu hv hw hc0 hc1 hc2 hr0 hr1 hr2 hp0 hp1 hp2 e0 e1 e2 H hall HS HW
    go_wp2_with fail
    go_region_held3 (fun w' => b0 < w'.heap.size ∧ b1 < w'.heap.size ∧ b2 < w'.heap.size ∧ w'.cell? ⟨b0, 0, none⟩ = some (.slice (some ⟨x0, 0, none⟩) k0.length 2) ∧ w'.cell? ⟨b0, 1, none⟩ = some (.slice (some ⟨y0, 0, none⟩) l0.length 2) ∧ w'.cell? ⟨b0, 2, none⟩ = some (.slice (some ⟨s0, 0, none⟩) m0.length c0) ∧ w'.cell? ⟨b1, 0, none⟩ = some (.slice (some ⟨x1, 0, none⟩) k1.length 2) ∧ w'.cell? ⟨b1, 1, none⟩ = some (.slice (some ⟨y1, 0, none⟩) l1.length 2) ∧ w'.cell? ⟨b1, 2, none⟩ = some (.slice (some ⟨s1, 0, none⟩) m1.length c1) ∧ w'.cell? ⟨b2, 0, none⟩ = some (.slice (some ⟨x2, 0, none⟩) k2.length 2) ∧ w'.cell? ⟨b2, 1, none⟩ = some (.slice (some ⟨y2, 0, none⟩) l2.length 2) ∧ w'.cell? ⟨b2, 2, none⟩ = some (.slice (some ⟨s2, 0, none⟩) m2.length c2))
      (first | exact hS | exact nine_keep H6.out (by assumption) | exact nine_keep H5.out.2.2 (by assumption) | exact nine_keep H4.out.1 (by assumption) | exact nine_keep H3.out.2.2 (by assumption) | exact nine_keep H2.out.1 (by assumption) | exact nine_keep H1.out.1 (by assumption) | go_keep)
      (first
        | (go_at_call 61; refine (exactTerm_any _ (((HU.out.2.2.kept H1.out.1).kept H2.out.1).kept H3.out.2.2) (((HU.out.1.kept H1.out.1).kept H2.out.1).kept H3.out.2.2) (((HU.out.2.1.kept H1.out.1).kept H2.out.1).kept H3.out.2.2)).mono ?_; rintro e w4 ⟨g4, d4, z4, rfl, H4⟩)
        | (go_at_call 61; refine (exactTerm_any _ (HU.out.2.1.kept H1.out.1) (HU.out.2.2.kept H1.out.1) (HU.out.1.kept H1.out.1)).mono ?_; rintro e w2 ⟨g2, d2, z2, rfl, H2⟩)
        | (go_at_call 61; refine (exactTerm_any _ HU.out.1 HU.out.2.1 HU.out.2.2).mono ?_; rintro e w1 ⟨g1, d1, z1, rfl, H1⟩)
        | (go_at_call 62; refine (plus_nm (H3.out.1.kept H4.out.1) ⟨H4.out.2.lst, H4.out.2.tot, Int.le_trans H4.out.2.mass (p2_le (by omega)), H4.out.2.len⟩ (by omega) (by omega) (by omega)).mono ?_; rintro e w5 ⟨g5, d5, z5, rfl, H5⟩)
        | (go_at_call 62; refine (plus_nm (H1.out.2.kept H2.out.1) H2.out.2 (by omega) (by omega) (by omega)).mono ?_; rintro e w3 ⟨g3, d3, z3, rfl, H3⟩)
        | (go_at_call 57; refine (sign_any _ _ _ _ H5.out.1.lst).mono ?_; rintro e w6 ⟨rfl, rfl⟩))
    go_wp2_with fail
    go_ret
    refine ⟨?_, ((((HN.out.trans' H1.out.1).trans' H2.out.1).trans' H3.out.2.2).trans' H4.out.1).trans' H5.out.2.2⟩
    rw [H5.out.1.tot]; rfl

end Go.Proofs.YtgeoffpcmkofkaaGreat
/- The walks of 'OfCircle' and of plumb's 'Circle'. -/
namespace Go.Proofs.YtgeoffpcmkofkaaGreat
open Go.RowKit Fl
set_option maxRecDepth 100000

set_option maxHeartbeats 800000 in
theorem ofCircle_any (ax ay bx by' cx cy dx dy : Int) (w : World) (h1 : Cd ax) (h2 : Cd ay) (h3 : Cd bx) (h4 : Cd by') (h5 : Cd cx) (h6 : Cd cy) (h7 : Cd dx) (h8 : Cd dy) :
    Calls Tryz.prog 25 #[.agg #[.int .i64 ax, .int .i64 ay], .agg #[.int .i64 bx, .int .i64 by'], .agg #[.int .i64 cx, .int .i64 cy], .agg #[.int .i64 dx, .int .i64 dy]] w fun e w' =>
      e = .returned (.int .i64 (sgn (cdet ax ay bx by' cx cy dx dy))) ∧ Hid (New w w') := by
  go_enter Tryz.func25, Tryz.ntmps25
  go_wp2_with fail
  refine (roughCircle_any ax ay bx by' cx cy dx dy _ h1 h2 h3 h4 h5 h6 h7 h8).mono ?_
  rintro e w1 ⟨sg, b, rfl, H1⟩
  have r1 := H1.out.1.rule
  have HN : Hid (New w w1) := ((((New.alloc _ _).alloc' _).alloc' _).alloc' _).trans' H1.out.1
  cases b with
  | true =>
    have hs := H1.out.2 rfl
    subst hs
    go_wp2_with fail
    go_ret
    exact ⟨rfl, HN.out⟩
  | false =>
    go_wp2_with fail
    refine (exactCircle_any ax ay bx by' cx cy dx dy _ h1 h2 h3 h4 h5 h6 h7 h8).mono ?_
    rintro e w2 ⟨rfl, H2⟩
    clear r1
    go_wp2_with fail
    go_ret
    exact ⟨rfl, HN.out.trans' H2.out⟩

set_option maxHeartbeats 800000 in
theorem circle_ok (ax ay bx by' cx cy dx dy : Int) (w : World) (hok : okB [(ax, ay), (bx, by'), (cx, cy), (dx, dy)] = true) :
    Calls Tryz.prog 15 #[.agg #[.int .i64 ax, .int .i64 ay], .agg #[.int .i64 bx, .int .i64 by'], .agg #[.int .i64 cx, .int .i64 cy], .agg #[.int .i64 dx, .int .i64 dy]] w fun e w' =>
      e = .returned (.tuple #[.int .i64 (sgn (cdet ax ay bx by' cx cy dx dy)), .int .i64 0]) ∧ Hid (New w w') := by
  have HO : Hid (okE [(ax, ay), (bx, by'), (cx, cy), (dx, dy)] = 0 ∧ (Cd ax ∧ Cd ay) ∧ (Cd bx ∧ Cd by') ∧ (Cd cx ∧ Cd cy) ∧ (Cd dx ∧ Cd dy)) := ⟨by rw [okE, hok]; rfl, okB_cd hok (p := (ax, ay)) (by simp), okB_cd hok (p := (bx, by')) (by simp), okB_cd hok (p := (cx, cy)) (by simp), okB_cd hok (p := (dx, dy)) (by simp)⟩
  clear hok
  go_enter Tryz.func15, Tryz.ntmps15
  go_wp2_with fail
  refine (check4 ax ay bx by' cx cy dx dy _ _ (by simp)).mono ?_
  rintro e w1 ⟨rfl, H1⟩
  have r1 := H1.out.rule
  have hE := HO.out.1
  go_wp2_with fail
  refine (ofCircle_any ax ay bx by' cx cy dx dy _ HO.out.2.1.1 HO.out.2.1.2 HO.out.2.2.1.1 HO.out.2.2.1.2 HO.out.2.2.2.1.1 HO.out.2.2.2.1.2 HO.out.2.2.2.2.1 HO.out.2.2.2.2.2).mono ?_
  rintro e w2 ⟨rfl, H2⟩
  clear r1
  go_wp2_with fail
  go_ret2
  exact ⟨rfl, (((((New.alloc _ _).alloc' _).alloc' _).alloc' _).trans' H1.out).trans' H2.out⟩

set_option maxHeartbeats 800000 in
theorem circle_bad (ax ay bx by' cx cy dx dy : Int) (w : World) (hok : okB [(ax, ay), (bx, by'), (cx, cy), (dx, dy)] = false) :
    Calls Tryz.prog 15 #[.agg #[.int .i64 ax, .int .i64 ay], .agg #[.int .i64 bx, .int .i64 by'], .agg #[.int .i64 cx, .int .i64 cy], .agg #[.int .i64 dx, .int .i64 dy]] w fun e w' =>
      e = .returned (.tuple #[.int .i64 0, .int .i64 1]) ∧ Hid (New w w') := by
  have HO : Hid (okE [(ax, ay), (bx, by'), (cx, cy), (dx, dy)] = 1) := by rw [Hid, okE, hok]; rfl
  clear hok
  go_enter Tryz.func15, Tryz.ntmps15
  go_wp2_with fail
  refine (check4 ax ay bx by' cx cy dx dy _ _ (by simp)).mono ?_
  rintro e w1 ⟨rfl, H1⟩
  have hE := HO.out
  go_wp2_with fail
  go_ret2
  exact ⟨rfl, ((((New.alloc _ _).alloc' _).alloc' _).alloc' _).trans' H1.out⟩

end Go.Proofs.YtgeoffpcmkofkaaGreat
/- The walks of package plumbkeep: 'at', 'near', 'fit', 'mirrored', 'turned', 'moved', 'halved', 'side', 'circle'. -/
namespace Go.Proofs.YtgeoffpcmkofkaaGreat
open Go.RowKit Fl
set_option maxRecDepth 100000

set_option maxHeartbeats 400000 in
theorem at_any (x y : Int) (w : World) : Calls Tryz.prog 13 #[.int .i64 x, .int .i64 y] w fun e w' => e = .returned (.agg #[.int .i64 x, .int .i64 y]) ∧ Hid (New w w') := by
  go_enter Tryz.func13, Tryz.ntmps13
  go_wp2_with fail
  refine bodyPost_ret (v := .agg #[.int .i64 x, .int .i64 y]) (by simp [results, Tryz.results13, go_sem]) rfl ?_
  exact ⟨rfl, New.alloc w _⟩

set_option maxHeartbeats 400000 in
theorem near_yes (n : Int) (w : World) : Calls Tryz.prog 16 #[.int .i64 n, .int .i64 0, .int .i64 n] w fun e w' => e = .returned (.bool true) ∧ w = w' := by
  go_enter Tryz.func16, Tryz.ntmps16
  go_wp2_with fail
  go_ret
  exact ⟨rfl, rfl⟩

theorem fit_neg {n : Int} (h : n < 0) : Cd (wrap64 (-(n + 1).tmod 18014398509481985 - 9007199254740992)) := by
  have e : -(n + 1).tmod 18014398509481985 = (-(n + 1)) % 18014398509481985 := by rw [← Int.neg_tmod, Int.tmod_eq_emod_of_nonneg (by omega)]
  rw [e]
  unfold wrap64 Cd
  omega

set_option maxHeartbeats 400000 in
theorem fit_any (n : Int) (w : World) (h1 : -9223372036854775808 ≤ n) (h2 : n < 9223372036854775808) : Calls Tryz.prog 17 #[.int .i64 n] w fun e w' => ∃ r : Int, e = .returned (.int .i64 r) ∧ Hid (Cd r) ∧ w = w' := by
  by_cases h : n < 0
  · have HF : Hid (Cd _) := fit_neg h
    go_enter Tryz.func17, Tryz.ntmps17
    go_wp2_with fail
    go_ret
    exact ⟨_, rfl, HF, rfl⟩
  · go_enter Tryz.func17, Tryz.ntmps17
    go_wp2_with fail
    go_ret
    exact ⟨_, rfl, by unfold Hid Cd; omega, rfl⟩

set_option maxHeartbeats 800000 in
theorem kside_any (ax ay bx by' cx cy : Int) (w : World) (hok : okB [(ax, ay), (bx, by'), (cx, cy)] = true) :
    Calls Tryz.prog 20 #[.agg #[.int .i64 ax, .int .i64 ay], .agg #[.int .i64 bx, .int .i64 by'], .agg #[.int .i64 cx, .int .i64 cy]] w fun e w' =>
      e = .returned (.int .i64 (sgn (det ax ay bx by' cx cy))) ∧ Hid (New w w') := by
  have HO : Hid (okB [(ax, ay), (bx, by'), (cx, cy)] = true) := hok
  clear hok
  go_enter Tryz.func20, Tryz.ntmps20
  go_wp2_with fail
  refine (side_ok ax ay bx by' cx cy _ HO.out).mono ?_
  rintro e w1 ⟨rfl, H1⟩
  go_wp2_with fail
  go_ret
  exact ⟨rfl, (((New.alloc _ _).alloc' _).alloc' _).trans' H1.out⟩

set_option maxHeartbeats 800000 in
theorem kcircle_any (ax ay bx by' cx cy dx dy : Int) (w : World) (hok : okB [(ax, ay), (bx, by'), (cx, cy), (dx, dy)] = true) :
    Calls Tryz.prog 12 #[.agg #[.int .i64 ax, .int .i64 ay], .agg #[.int .i64 bx, .int .i64 by'], .agg #[.int .i64 cx, .int .i64 cy], .agg #[.int .i64 dx, .int .i64 dy]] w fun e w' =>
      e = .returned (.int .i64 (sgn (cdet ax ay bx by' cx cy dx dy))) ∧ Hid (New w w') := by
  have HO : Hid (okB [(ax, ay), (bx, by'), (cx, cy), (dx, dy)] = true) := hok
  clear hok
  go_enter Tryz.func12, Tryz.ntmps12
  go_wp2_with fail
  refine (circle_ok ax ay bx by' cx cy dx dy _ HO.out).mono ?_
  rintro e w1 ⟨rfl, H1⟩
  go_wp2_with fail
  go_ret
  exact ⟨rfl, ((((New.alloc _ _).alloc' _).alloc' _).alloc' _).trans' H1.out⟩

end Go.Proofs.YtgeoffpcmkofkaaGreat
/- The walk of 'Sorted' of package order. -/
namespace Go.Proofs.YtgeoffpcmkofkaaGreat
open Go.RowKit Fl
set_option maxRecDepth 100000
attribute [local go_sem ↓] Go.wp_at_zero Go.wp_at_succ

theorem set_other {W : World} {b k i o : Nat} {x : Value} (h : k ≠ b) : (W.setCell ⟨b, i, none⟩ x).cell? ⟨k, o, none⟩ = W.cell? ⟨k, o, none⟩ :=
  World.cell?_of_block (a := ⟨k, o, none⟩) (heap_setCell_other W ⟨b, i, none⟩ k x h)
theorem New.set {w w1 : World} (h : New w w1) {b o : Nat} (hb : w.heap.size ≤ b) (x : Value) : New w (w1.setCell ⟨b, o, none⟩ x) :=
  Below.new' ((New.below' h).setCell (p := ⟨b, o, none⟩) hb x)
theorem drew_cell {W : World} {a : Addr} : W.drew.cell? a = W.cell? a := rfl


theorem cd_cases (n : Int) : (n < -9007199254740992 ∧ cdB n = false) ∨ (9007199254740992 < n ∧ cdB n = false) ∨ (-9007199254740992 ≤ n ∧ n ≤ 9007199254740992 ∧ cdB n = true) := by
  by_cases h1 : n < -9007199254740992
  · exact Or.inl ⟨h1, by simp [cdB]; omega⟩
  · by_cases h2 : 9007199254740992 < n
    · exact Or.inr (Or.inl ⟨h2, by simp [cdB]; omega⟩)
    · exact Or.inr (Or.inr ⟨by omega, by omega, by simp [cdB]; omega⟩)
theorem New.kept {w1 w2 : World} (h : New w1 w2) {b o : Nat} {v : Value} (hc : w1.cell? ⟨b, o, none⟩ = some v) : w2.cell? ⟨b, o, none⟩ = some v :=
  (h.rule b o (World.block_lt_of_cell? w1 _ hc)).trans hc
theorem behind2 {w1 : World} {b o : Nat} {v : Value} (hc : w1.cell? ⟨b, o, none⟩ = some v) : ∀ o1 o2, ((w1.alloc o1).alloc o2).cell? ⟨b, o, none⟩ = some v := fun o1 o2 => ((New.alloc w1 o1).alloc' o2).kept hc

end Go.Proofs.YtgeoffpcmkofkaaGreat
