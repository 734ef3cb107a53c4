/- The walk of 'roughCircle'. -/
import Derived.Test.YtgeoffpcmkofkaaWw
namespace Go.Proofs.Ytgeoffpcmkofkaa
open Go.RowKit Fl
set_option maxRecDepth 100000

theorem eight_keep {W w' : World} {g : Nat} {p q r s t u x y : Value} (hn : New W w') (hs : g + 1 + 1 + 1 < W.heap.size ∧ W.cell? ⟨g, 0, none⟩ = some p ∧ W.cell? ⟨g, 1, none⟩ = some q ∧ W.cell? ⟨g + 1, 0, none⟩ = some r ∧ W.cell? ⟨g + 1, 1, none⟩ = some s ∧ W.cell? ⟨g + 1 + 1, 0, none⟩ = some t ∧ W.cell? ⟨g + 1 + 1, 1, none⟩ = some u ∧ W.cell? ⟨g + 1 + 1 + 1, 0, none⟩ = some x ∧ W.cell? ⟨g + 1 + 1 + 1, 1, none⟩ = some y) :
    g + 1 + 1 + 1 < w'.heap.size ∧ w'.cell? ⟨g, 0, none⟩ = some p ∧ w'.cell? ⟨g, 1, none⟩ = some q ∧ w'.cell? ⟨g + 1, 0, none⟩ = some r ∧ w'.cell? ⟨g + 1, 1, none⟩ = some s ∧ w'.cell? ⟨g + 1 + 1, 0, none⟩ = some t ∧ w'.cell? ⟨g + 1 + 1, 1, none⟩ = some u ∧ w'.cell? ⟨g + 1 + 1 + 1, 0, none⟩ = some x ∧ w'.cell? ⟨g + 1 + 1 + 1, 1, none⟩ = some y := by
  obtain ⟨h0, h1, h2, h3, h4, h5, h6, h7, h8⟩ := hs
  have := hn.size
  refine ⟨by omega, ?_, ?_, ?_, ?_, ?_, ?_, ?_, ?_⟩
  all_goals (rw [hn.rule _ _ (by omega)]; assumption)

theorem getD_false {listed : Array Bool} {i : Nat} (h : listed.getD i true = false) : listed.getD i false = false := by
  by_cases hs : i < listed.size
  · simpa [Array.getD, hs] using h
  · simp [Array.getD, hs]

/-- All edges lead back. -/
def edgesB (md : Region.Mode) (ops : Array Oper) : Bool := (List.range ops.size).all fun i => ((ops[i]?).map fun o => o.after.all fun e => !Region.binds md e || decide (e.on < i)).getD true
def guardsB (ops : Array Oper) : Bool := ops.all fun o => o.guard.isNone

theorem edges_ok {md : Region.Mode} {ops : Array Oper} (h : edgesB md ops = true) : ∀ (i : Nat) (o : Oper), ops[i]? = some o → ∀ e ∈ o.after, Region.binds md e = true → e.on < i := by
  intro i o ho e he hb
  have hi : i < ops.size := (Array.getElem?_eq_some_iff.1 ho).1
  have h1 := List.all_eq_true.1 h i (by simpa using hi)
  rw [ho] at h1
  simp only [Option.map_some, Option.getD_some] at h1
  rw [Array.all_eq_true_iff_forall_mem] at h1
  have := h1 e he
  rw [hb] at this
  simpa using this

theorem guards_ok {ops : Array Oper} (h : guardsB ops = true) : ∀ (i : Nat) (o : Oper), ops[i]? = some o → o.guard = none := by
  intro i o ho
  unfold guardsB at h
  rw [Array.all_eq_true_iff_forall_mem] at h
  have := h o (Array.mem_of_getElem? ho)
  simpa using this

/-- The rows, rounded. -/
def RR (ax ay bx by' cx cy dx dy : Int) (j : Fin 3) (v : Value) (_w : World) : Prop :=
  ∃ x y s : Nat × Int, v = .agg #[.float .f64 x.1, .float .f64 y.1, .float .f64 s.1] ∧ RRow ((if j = 0 then ax else if j = 1 then bx else cx) - dx) ((if j = 0 then ay else if j = 1 then by' else cy) - dy) x y s

section
variable {ax ay bx by' cx cy dx dy : Int}
theorem rr_new : ∀ (j : Fin 3) (v : Value) (w w' : World), RR ax ay bx by' cx cy dx dy j v w → New w w' → RR ax ay bx by' cx cy dx dy j v w' := fun _ _ _ _ h _ => h
theorem rr_set {z : Array Value} {t : TypeId} : ∀ (j : Fin 3) (v : Value) (w : World) (b : Nat) (x0 x1 x2 : Value), RR ax ay bx by' cx cy dx dy j v w → w.heap[b]? = some (.cells z t (0, 0)) → RR ax ay bx by' cx cy dx dy j v (((w.setCell ⟨b, 0, none⟩ x0).setCell ⟨b, 1, none⟩ x1).setCell ⟨b, 2, none⟩ x2) := fun _ _ _ _ _ _ _ h _ => h
theorem rr_mk0 {x y s : Nat × Int} {w : World} (h : RRow (ax - dx) (ay - dy) x y s) : RR ax ay bx by' cx cy dx dy 0 (.agg #[.float .f64 x.1, .float .f64 y.1, .float .f64 s.1]) w := ⟨x, y, s, rfl, h⟩
theorem rr_mk1 {x y s : Nat × Int} {w : World} (h : RRow (bx - dx) (by' - dy) x y s) : RR ax ay bx by' cx cy dx dy 1 (.agg #[.float .f64 x.1, .float .f64 y.1, .float .f64 s.1]) w := ⟨x, y, s, rfl, h⟩
theorem rr_mk2 {x y s : Nat × Int} {w : World} (h : RRow (cx - dx) (cy - dy) x y s) : RR ax ay bx by' cx cy dx dy 2 (.agg #[.float .f64 x.1, .float .f64 y.1, .float .f64 s.1]) w := ⟨x, y, s, rfl, h⟩
theorem rr_form {j : Fin 3} {v : Value} {w : World} (h : RR ax ay bx by' cx cy dx dy j v w) : ∃ x y s : Nat, v = .agg #[.float .f64 x, .float .f64 y, .float .f64 s] := by
  obtain ⟨x, y, s, e, _⟩ := h
  exact ⟨_, _, _, e⟩
end

/-- The number whose sign is the circle side. -/
def cdet (ax ay bx by' cx cy dx dy : Int) : Int :=
  ((ax - dx) * (ax - dx) + (ay - dy) * (ay - dy)) * ((bx - dx) * (cy - dy) - (by' - dy) * (cx - dx)) +
  ((bx - dx) * (bx - dx) + (by' - dy) * (by' - dy)) * ((cx - dx) * (ay - dy) - (cy - dy) * (ax - dx)) +
  ((cx - dx) * (cx - dx) + (cy - dy) * (cy - dy)) * ((ax - dx) * (by' - dy) - (ay - dy) * (bx - dx))

theorem Fl.G.mono {s z c c' : Int} (h : G s z c) (hc : c ≤ c') : G s z c' := ⟨Int.le_trans h.1 (Int.mul_le_mul_of_nonneg_right (by omega) h.2), h.2⟩

theorem circle_words {T1 T2 T3 : Int} {v1 z1 v2 z2 v3 z3 : Nat × Int} (h1 : RTerm T1 v1 z1) (h2 : RTerm T2 v2 z2) (h3 : RTerm T3 v3 z3) :
    ∃ (a d b t s : Nat) (zd S : Int), Ieee.double.add v1.1 v2.1 = some a ∧ Ieee.double.add a v3.1 = some d ∧ Ieee.double.add z1.1 z2.1 = some b ∧ Ieee.double.add b z3.1 = some t ∧ Ieee.double.mul 4386506037058863104 t = some s ∧
      F d zd 0 ∧ F s S 49 ∧ (S < zd * 2 ^ 49 → 0 < T1 + T2 + T3) ∧ (zd * 2 ^ 49 < -S → T1 + T2 + T3 < 0) := by
  have m22 : (2 : Int) ^ 222 ≤ 2 ^ 223 := p2_le (by omega)
  have b1 := add_le_p2 h1.sv h2.sv
  obtain ⟨a, za, e1, q1, f1⟩ := h1.wv.add h2.wv (by omega) (small_Big b1 (by omega))
  have c1 := rnd_p2 q1 b1
  have b2 := add_le_p2 c1 (Int.le_trans h3.sv m22)
  obtain ⟨d, zd, e2, q2, f2⟩ := f1.add h3.wv (by omega) (small_Big b2 (by omega))
  have b3 := add_le_p2 h1.sz h2.sz
  obtain ⟨b, zb, e3, q3, f3⟩ := h1.wz.add h2.wz (by omega) (small_Big b3 (by omega))
  have c3 := rnd_p2 q3 b3
  have b4 := add_le_p2 c3 (Int.le_trans h3.sz m22)
  obtain ⟨t, zt, e4, q4, f4⟩ := f3.add h3.wz (by omega) (small_Big b4 (by omega))
  have c4 := rnd_p2 q4 b4
  obtain ⟨s, zs, e5, q5, f5⟩ := slack49.mul f4 (by omega) (by rw [Int.one_mul]; exact small_Big c4 (by omega))
  rw [Int.one_mul] at q5
  have hzs := q5.exact q4.rep
  subst hzs
  obtain ⟨s1, E1, G1⟩ := h1.err
  obtain ⟨s2, E2, G2⟩ := h2.err
  obtain ⟨s3, E3, G3⟩ := h3.err
  have E4 := ((E1.add E2).roundS q1 (by omega) (by omega)).mono (show _ ≤ 1305 by omega)
  have E5 := (E4.add (E3.mono (show (1175 : Int) ≤ 1305 by omega))).roundS q2 (by omega) (by omega)
  have G4 := ((G1.add G2).round q3 (by omega) (by omega)).mono (show _ ≤ 389 by omega)
  have G5 := (G4.add (G3.mono (show (259 : Int) ≤ 389 by omega))).round q4 (by omega) (by omega)
  have e49 : (2 : Int) ^ 49 = 562949953421312 := by decide
  have hs := sign_sure' (m := 2 ^ 49) E5 G5 (by omega) (by omega) e49
  exact ⟨a, d, b, t, s, zd, zs, e1, e2, e3, e4, e5, f2, f5, hs.1, hs.2⟩

set_option maxHeartbeats 6400000 in
theorem roughCircle_any (ax ay bx by' cx cy dx dy : Int) (w : World) (h1 : Cd ax) (h2 : Cd ay) (h3 : Cd bx) (h4 : Cd by') (h5 : Cd cx) (h6 : Cd cy) (h7 : Cd dx) (h8 : Cd dy) :
    Calls Try.prog 62 #[.agg #[.int .i64 ax, .int .i64 ay], .agg #[.int .i64 bx, .int .i64 by'], .agg #[.int .i64 cx, .int .i64 cy], .agg #[.int .i64 dx, .int .i64 dy]] w fun e w' =>
      ∃ (sg : Int) (b : Bool), e = .returned (.tuple #[.int .i64 sg, .bool b]) ∧ Hid (New w w' ∧ (b = true → sg = sgn (cdet ax ay bx by' cx cy dx dy))) := by
  obtain ⟨W, hW⟩ : ∃ W, W = (((w.alloc (.cells #[.int .i64 ax, .int .i64 ay] 23)).alloc (.cells #[.int .i64 bx, .int .i64 by'] 23)).alloc (.cells #[.int .i64 cx, .int .i64 cy] 23)).alloc (.cells #[.int .i64 dx, .int .i64 dy] 23) := ⟨_, rfl⟩
  have HW : Hid (New w W) := by rw [hW]; exact (((New.alloc _ _).alloc' _).alloc' _).alloc' _
  have HS : Hid (w.heap.size + 1 + 1 + 1 < W.heap.size ∧ W.cell? ⟨w.heap.size, 0, none⟩ = some (.int .i64 ax) ∧ W.cell? ⟨w.heap.size, 1, none⟩ = some (.int .i64 ay) ∧ W.cell? ⟨w.heap.size + 1, 0, none⟩ = some (.int .i64 bx) ∧ W.cell? ⟨w.heap.size + 1, 1, none⟩ = some (.int .i64 by') ∧ W.cell? ⟨w.heap.size + 1 + 1, 0, none⟩ = some (.int .i64 cx) ∧ W.cell? ⟨w.heap.size + 1 + 1, 1, none⟩ = some (.int .i64 cy) ∧ W.cell? ⟨w.heap.size + 1 + 1 + 1, 0, none⟩ = some (.int .i64 dx) ∧ W.cell? ⟨w.heap.size + 1 + 1 + 1, 1, none⟩ = some (.int .i64 dy)) := by
    rw [hW]
    refine ⟨by simp, ?_, ?_, ?_, ?_, ?_, ?_, ?_, ?_⟩ <;> go_simp
  go_enter Try.func62, Try.ntmps62
  go_wp2_with fail
  rw [← hW]
  clear hW
  refine wp_region_inv (by kernel_rfl) (fun listed a' w' => ∃ (p r : Fin 3 → Value) (s0 s1 s3 s4 s6 s7 : Value), a' = { tmps := #[.agg #[.int .i64 ax, .int .i64 ay], .agg #[.int .i64 bx, .int .i64 by'], .agg #[.int .i64 cx, .int .i64 cy], .agg #[.int .i64 dx, .int .i64 dy], .pointer (some ⟨w.heap.size, 0, none⟩), .pointer (some ⟨w.heap.size + 1, 0, none⟩), .pointer (some ⟨w.heap.size + 1 + 1, 0, none⟩), .pointer (some ⟨w.heap.size + 1 + 1 + 1, 0, none⟩), .int .i64 0, .bool false, p 0, p 1, p 2, undef, undef, undef, undef, undef, undef, s0, s1, r 0, s3, s4, r 1, s6, s7, r 2, undef, undef, undef, undef, undef, undef, undef, undef, undef, undef, undef, undef, undef, undef, undef, undef, undef, undef, undef, undef, undef, undef, undef, undef, undef, undef, undef, undef, undef, undef, undef, undef, undef, undef, undef], defers := [] } ∧ Hid (Trio W w' 93 #[.float .f64 0, .float .f64 0, .float .f64 0] (RR ax ay bx by' cx cy dx dy) listed p r ∧ Lds listed (.agg #[.int .i64 ax, .int .i64 ay]) (.agg #[.int .i64 bx, .int .i64 by']) (.agg #[.int .i64 cx, .int .i64 cy]) (.agg #[.int .i64 dx, .int .i64 dy]) s0 s1 s3 s4 s6 s7)) ?hac ?hg ?start ?step ?fin
  case hac => exact edges_ok (by kernel_rfl)
  case hg => exact guards_ok (by kernel_rfl)
  case start => exact ⟨fun _ => undef, fun _ => undef, undef, undef, undef, undef, undef, undef, rfl, Trio.start ((New.refl W).drewN 1) _, Lds.start _⟩
  case step =>
    rintro listed a' wr i o ⟨p, r, s0, s1, s3, s4, s6, s7, rfl, H⟩ ho hr
    have hm := hr.mine
    have hah := hr.ahead
    have q0 := eight_keep H.out.1.new HS.out
    obtain ⟨e0, e1, e2, e3, e4, e5, e6, e7, e8⟩ := q0
    clear hr e0
    match i, ho with
    | 0, ho =>
      obtain rfl := Option.some.inj (show some _ = some o from ho)
      refine wpK fun K' hK => ?_
      clear hah ho
      have HM : Hid (listed.getD 0 true = false) := hm
      clear hm
      go_simp
      exact hK.out _ _ ⟨p, r, (.agg #[.int .i64 ax, .int .i64 ay]), s1, s3, s4, s6, s7, rfl, H.out.1.load HM.out (by intro j; omega) (by omega), H.out.2.set0 HM.out⟩
    | 1, ho =>
      obtain rfl := Option.some.inj (show some _ = some o from ho)
      refine wpK fun K' hK => ?_
      clear hah ho
      have HM : Hid (listed.getD 1 true = false) := hm
      clear hm
      go_simp
      exact hK.out _ _ ⟨p, r, s0, (.agg #[.int .i64 dx, .int .i64 dy]), s3, s4, s6, s7, rfl, H.out.1.load HM.out (by intro j; omega) (by omega), H.out.2.set1 HM.out⟩
    | 2, ho =>
      obtain rfl := Option.some.inj (show some _ = some o from ho)
      have d0 := H.out.2.l0 (hah ⟨0, .data⟩ (by simp) rfl)
      have d1 := H.out.2.l1 (hah ⟨1, .data⟩ (by simp) rfl)
      subst d0 d1
      refine wpK fun K' hK => ?_
      clear hah ho
      have HM : Hid (listed.getD 2 true = false) := hm
      clear hm
      go_simp
      refine (newRoughRow_any ax ay dx dy _ h1 h2 h7 h8).mono ?_
      rintro e w2 ⟨x, y, s, rfl, HC⟩
      dsimp only
      exact hK.out _ _ ⟨p, upd r 0 _, _, _, _, _, _, _, rfl, H.out.1.call rr_new 0 HM.out HC.out.1 (rr_mk0 HC.out.2), H.out.2.keep HM.out (by decide)⟩
    | 3, ho =>
      obtain rfl := Option.some.inj (show some _ = some o from ho)
      refine wpK fun K' hK => ?_
      clear hah ho
      have HM : Hid (listed.getD 3 true = false) := hm
      clear hm
      go_simp
      exact hK.out _ _ ⟨p, r, s0, s1, (.agg #[.int .i64 bx, .int .i64 by']), s4, s6, s7, rfl, H.out.1.load HM.out (by intro j; omega) (by omega), H.out.2.set3 HM.out⟩
    | 4, ho =>
      obtain rfl := Option.some.inj (show some _ = some o from ho)
      refine wpK fun K' hK => ?_
      clear hah ho
      have HM : Hid (listed.getD 4 true = false) := hm
      clear hm
      go_simp
      exact hK.out _ _ ⟨p, r, s0, s1, s3, (.agg #[.int .i64 dx, .int .i64 dy]), s6, s7, rfl, H.out.1.load HM.out (by intro j; omega) (by omega), H.out.2.set4 HM.out⟩
    | 5, ho =>
      obtain rfl := Option.some.inj (show some _ = some o from ho)
      have d0 := H.out.2.l3 (hah ⟨3, .data⟩ (by simp) rfl)
      have d1 := H.out.2.l4 (hah ⟨4, .data⟩ (by simp) rfl)
      subst d0 d1
      refine wpK fun K' hK => ?_
      clear hah ho
      have HM : Hid (listed.getD 5 true = false) := hm
      clear hm
      go_simp
      refine (newRoughRow_any bx by' dx dy _ h3 h4 h7 h8).mono ?_
      rintro e w2 ⟨x, y, s, rfl, HC⟩
      dsimp only
      exact hK.out _ _ ⟨p, upd r 1 _, _, _, _, _, _, _, rfl, H.out.1.call rr_new 1 HM.out HC.out.1 (rr_mk1 HC.out.2), H.out.2.keep HM.out (by decide)⟩
    | 6, ho =>
      obtain rfl := Option.some.inj (show some _ = some o from ho)
      refine wpK fun K' hK => ?_
      clear hah ho
      have HM : Hid (listed.getD 6 true = false) := hm
      clear hm
      go_simp
      exact hK.out _ _ ⟨p, r, s0, s1, s3, s4, (.agg #[.int .i64 cx, .int .i64 cy]), s7, rfl, H.out.1.load HM.out (by intro j; omega) (by omega), H.out.2.set6 HM.out⟩
    | 7, ho =>
      obtain rfl := Option.some.inj (show some _ = some o from ho)
      refine wpK fun K' hK => ?_
      clear hah ho
      have HM : Hid (listed.getD 7 true = false) := hm
      clear hm
      go_simp
      exact hK.out _ _ ⟨p, r, s0, s1, s3, s4, s6, (.agg #[.int .i64 dx, .int .i64 dy]), rfl, H.out.1.load HM.out (by intro j; omega) (by omega), H.out.2.set7 HM.out⟩
    | 8, ho =>
      obtain rfl := Option.some.inj (show some _ = some o from ho)
      have d0 := H.out.2.l6 (hah ⟨6, .data⟩ (by simp) rfl)
      have d1 := H.out.2.l7 (hah ⟨7, .data⟩ (by simp) rfl)
      subst d0 d1
      refine wpK fun K' hK => ?_
      clear hah ho
      have HM : Hid (listed.getD 8 true = false) := hm
      clear hm
      go_simp
      refine (newRoughRow_any cx cy dx dy _ h5 h6 h7 h8).mono ?_
      rintro e w2 ⟨x, y, s, rfl, HC⟩
      dsimp only
      exact hK.out _ _ ⟨p, upd r 2 _, _, _, _, _, _, _, rfl, H.out.1.call rr_new 2 HM.out HC.out.1 (rr_mk2 HC.out.2), H.out.2.keep HM.out (by decide)⟩
    | 9, ho =>
      obtain rfl := Option.some.inj (show some _ = some o from ho)
      refine wpK fun K' hK => ?_
      clear hah ho
      have HM : Hid (listed.getD 9 true = false) := hm
      clear hm
      go_simp
      exact hK.out _ _ ⟨upd p 0 _, r, s0, s1, s3, s4, s6, s7, rfl, H.out.1.alloc rr_new 0 HM.out, H.out.2.keep HM.out (by decide)⟩
    | 10, ho =>
      obtain rfl := Option.some.inj (show some _ = some o from ho)
      refine wpK fun K' hK => ?_
      clear hah ho
      have HM : Hid (listed.getD 10 true = false) := hm
      clear hm
      go_simp
      exact hK.out _ _ ⟨upd p 1 _, r, s0, s1, s3, s4, s6, s7, rfl, H.out.1.alloc rr_new 1 HM.out, H.out.2.keep HM.out (by decide)⟩
    | 11, ho =>
      obtain rfl := Option.some.inj (show some _ = some o from ho)
      refine wpK fun K' hK => ?_
      clear hah ho
      have HM : Hid (listed.getD 11 true = false) := hm
      clear hm
      go_simp
      exact hK.out _ _ ⟨upd p 2 _, r, s0, s1, s3, s4, s6, s7, rfl, H.out.1.alloc rr_new 2 HM.out, H.out.2.keep HM.out (by decide)⟩
    | 12, ho =>
      obtain rfl := Option.some.inj (show some _ = some o from ho)
      have da := hah ⟨9, .data⟩ (by simp) rfl
      have dc := hah ⟨2, .data⟩ (by simp) rfl
      obtain ⟨b, hp, hW, hz, _⟩ := H.out.1.ptr 0 da
      obtain ⟨⟨x0, x1, x2, hx⟩, hR⟩ := H.out.1.row 0 dc
      have hf : listed.getD 12 false = false := getD_false hm
      have hzz := hz hf
      have HM : Hid (Trio W (((wr.setCell ⟨b, 0, none⟩ x0).setCell ⟨b, 1, none⟩ x1).setCell ⟨b, 2, none⟩ x2) 93 #[.float .f64 0, .float .f64 0, .float .f64 0] (RR ax ay bx by' cx cy dx dy) (listed.setIfInBounds 12 true) p r ∧ Lds (listed.setIfInBounds 12 true) (.agg #[.int .i64 ax, .int .i64 ay]) (.agg #[.int .i64 bx, .int .i64 by']) (.agg #[.int .i64 cx, .int .i64 cy]) (.agg #[.int .i64 dx, .int .i64 dy]) s0 s1 s3 s4 s6 s7) := ⟨H.out.1.store rr_set 0 hm rfl hp hx hzz hW da dc, H.out.2.keep hm (by decide)⟩
      have HP : Hid (p 0 = .pointer (some ⟨b, 0, none⟩) ∧ r 0 = .agg #[x0, x1, x2]) := ⟨hp, hx⟩
      have c0 : wr.cell? ⟨b, 0, none⟩ = some (.float .f64 0) := by rw [cell_of_row wr b 0 _ _ (0, 0) hzz]; rfl
      have c1 : wr.cell? ⟨b, 1, none⟩ = some (.float .f64 0) := by rw [cell_of_row wr b 1 _ _ (0, 0) hzz]; rfl
      have c2 : wr.cell? ⟨b, 2, none⟩ = some (.float .f64 0) := by rw [cell_of_row wr b 2 _ _ (0, 0) hzz]; rfl
      have f0 := frozen_of_row wr b 0 _ _ hzz
      have f1 := frozen_of_row wr b 1 _ _ hzz
      have f2 := frozen_of_row wr b 2 _ _ hzz
      refine wpK fun K' hK => ?_
      obtain ⟨y0, y1, y2, ey⟩ := rr_form hR
      rw [hx] at ey
      simp only [Value.agg.injEq, Array.mk.injEq, List.cons.injEq, and_true] at ey
      obtain ⟨rfl, rfl, rfl⟩ := ey
      have hst := store_float
      clear hah ho hm da dc hz hf hzz hR hW e1 e2 e3 e4 e5 e6 e7 e8
      go_simp
      refine cast (congrArg (fun a => K' a _) ?_) (hK.out _ _ ⟨p, r, s0, s1, s3, s4, s6, s7, rfl, HM.out.1, HM.out.2⟩)
      rw [hp, hx]
    | 13, ho =>
      obtain rfl := Option.some.inj (show some _ = some o from ho)
      have da := hah ⟨10, .data⟩ (by simp) rfl
      have dc := hah ⟨5, .data⟩ (by simp) rfl
      obtain ⟨b, hp, hW, hz, _⟩ := H.out.1.ptr 1 da
      obtain ⟨⟨x0, x1, x2, hx⟩, hR⟩ := H.out.1.row 1 dc
      have hf : listed.getD 13 false = false := getD_false hm
      have hzz := hz hf
      have HM : Hid (Trio W (((wr.setCell ⟨b, 0, none⟩ x0).setCell ⟨b, 1, none⟩ x1).setCell ⟨b, 2, none⟩ x2) 93 #[.float .f64 0, .float .f64 0, .float .f64 0] (RR ax ay bx by' cx cy dx dy) (listed.setIfInBounds 13 true) p r ∧ Lds (listed.setIfInBounds 13 true) (.agg #[.int .i64 ax, .int .i64 ay]) (.agg #[.int .i64 bx, .int .i64 by']) (.agg #[.int .i64 cx, .int .i64 cy]) (.agg #[.int .i64 dx, .int .i64 dy]) s0 s1 s3 s4 s6 s7) := ⟨H.out.1.store rr_set 1 hm rfl hp hx hzz hW da dc, H.out.2.keep hm (by decide)⟩
      have HP : Hid (p 1 = .pointer (some ⟨b, 0, none⟩) ∧ r 1 = .agg #[x0, x1, x2]) := ⟨hp, hx⟩
      have c0 : wr.cell? ⟨b, 0, none⟩ = some (.float .f64 0) := by rw [cell_of_row wr b 0 _ _ (0, 0) hzz]; rfl
      have c1 : wr.cell? ⟨b, 1, none⟩ = some (.float .f64 0) := by rw [cell_of_row wr b 1 _ _ (0, 0) hzz]; rfl
      have c2 : wr.cell? ⟨b, 2, none⟩ = some (.float .f64 0) := by rw [cell_of_row wr b 2 _ _ (0, 0) hzz]; rfl
      have f0 := frozen_of_row wr b 0 _ _ hzz
      have f1 := frozen_of_row wr b 1 _ _ hzz
      have f2 := frozen_of_row wr b 2 _ _ hzz
      refine wpK fun K' hK => ?_
      obtain ⟨y0, y1, y2, ey⟩ := rr_form hR
      rw [hx] at ey
      simp only [Value.agg.injEq, Array.mk.injEq, List.cons.injEq, and_true] at ey
      obtain ⟨rfl, rfl, rfl⟩ := ey
      have hst := store_float
      clear hah ho hm da dc hz hf hzz hR hW e1 e2 e3 e4 e5 e6 e7 e8
      go_simp
      refine cast (congrArg (fun a => K' a _) ?_) (hK.out _ _ ⟨p, r, s0, s1, s3, s4, s6, s7, rfl, HM.out.1, HM.out.2⟩)
      rw [hp, hx]
    | 14, ho =>
      obtain rfl := Option.some.inj (show some _ = some o from ho)
      have da := hah ⟨11, .data⟩ (by simp) rfl
      have dc := hah ⟨8, .data⟩ (by simp) rfl
      obtain ⟨b, hp, hW, hz, _⟩ := H.out.1.ptr 2 da
      obtain ⟨⟨x0, x1, x2, hx⟩, hR⟩ := H.out.1.row 2 dc
      have hf : listed.getD 14 false = false := getD_false hm
      have hzz := hz hf
      have HM : Hid (Trio W (((wr.setCell ⟨b, 0, none⟩ x0).setCell ⟨b, 1, none⟩ x1).setCell ⟨b, 2, none⟩ x2) 93 #[.float .f64 0, .float .f64 0, .float .f64 0] (RR ax ay bx by' cx cy dx dy) (listed.setIfInBounds 14 true) p r ∧ Lds (listed.setIfInBounds 14 true) (.agg #[.int .i64 ax, .int .i64 ay]) (.agg #[.int .i64 bx, .int .i64 by']) (.agg #[.int .i64 cx, .int .i64 cy]) (.agg #[.int .i64 dx, .int .i64 dy]) s0 s1 s3 s4 s6 s7) := ⟨H.out.1.store rr_set 2 hm rfl hp hx hzz hW da dc, H.out.2.keep hm (by decide)⟩
      have HP : Hid (p 2 = .pointer (some ⟨b, 0, none⟩) ∧ r 2 = .agg #[x0, x1, x2]) := ⟨hp, hx⟩
      have c0 : wr.cell? ⟨b, 0, none⟩ = some (.float .f64 0) := by rw [cell_of_row wr b 0 _ _ (0, 0) hzz]; rfl
      have c1 : wr.cell? ⟨b, 1, none⟩ = some (.float .f64 0) := by rw [cell_of_row wr b 1 _ _ (0, 0) hzz]; rfl
      have c2 : wr.cell? ⟨b, 2, none⟩ = some (.float .f64 0) := by rw [cell_of_row wr b 2 _ _ (0, 0) hzz]; rfl
      have f0 := frozen_of_row wr b 0 _ _ hzz
      have f1 := frozen_of_row wr b 1 _ _ hzz
      have f2 := frozen_of_row wr b 2 _ _ hzz
      refine wpK fun K' hK => ?_
      obtain ⟨y0, y1, y2, ey⟩ := rr_form hR
      rw [hx] at ey
      simp only [Value.agg.injEq, Array.mk.injEq, List.cons.injEq, and_true] at ey
      obtain ⟨rfl, rfl, rfl⟩ := ey
      have hst := store_float
      clear hah ho hm da dc hz hf hzz hR hW e1 e2 e3 e4 e5 e6 e7 e8
      go_simp
      refine cast (congrArg (fun a => K' a _) ?_) (hK.out _ _ ⟨p, r, s0, s1, s3, s4, s6, s7, rfl, HM.out.1, HM.out.2⟩)
      rw [hp, hx]
    | n + 15, ho => exact absurd ho (by simp)
  case fin =>
    rintro listed a' wr ⟨p, r, s0, s1, s3, s4, s6, s7, rfl, H⟩ hall
    obtain ⟨x0, y0, t0, hr0, hu⟩ := (H.out.1.row 0 (hall 2 (by decide))).2
    obtain ⟨x1, y1, t1, hr1, hv⟩ := (H.out.1.row 1 (hall 5 (by decide))).2
    obtain ⟨x2, y2, t2, hr2, hw⟩ := (H.out.1.row 2 (hall 8 (by decide))).2
    obtain ⟨b0, hp0, _, _, hc0⟩ := H.out.1.ptr 0 (hall 9 (by decide))
    obtain ⟨b1, hp1, _, _, hc1⟩ := H.out.1.ptr 1 (hall 10 (by decide))
    obtain ⟨b2, hp2, _, _, hc2⟩ := H.out.1.ptr 2 (hall 11 (by decide))
    obtain ⟨_, _, _, i0, k0⟩ := hc0 (hall 12 (by decide))
    obtain ⟨_, _, _, i1, k1⟩ := hc1 (hall 13 (by decide))
    obtain ⟨_, _, _, i2, k2⟩ := hc2 (hall 14 (by decide))
    rw [hr0] at i0
    rw [hr1] at i1
    rw [hr2] at i2
    cases i0
    cases i1
    cases i2
    have HN : Hid (New w wr) := HW.out.trans' H.out.1.new
    have l0 := lt_of_block k0
    have l1 := lt_of_block k1
    have l2 := lt_of_block k2
    have a0 : wr.cell? ⟨b0, 0, none⟩ = some (.float .f64 x0.1) := by rw [cell_of_row wr b0 0 _ _ (0, 0) k0]; rfl
    have a1 : wr.cell? ⟨b0, 1, none⟩ = some (.float .f64 y0.1) := by rw [cell_of_row wr b0 1 _ _ (0, 0) k0]; rfl
    have a2 : wr.cell? ⟨b0, 2, none⟩ = some (.float .f64 t0.1) := by rw [cell_of_row wr b0 2 _ _ (0, 0) k0]; rfl
    have a3 : wr.cell? ⟨b1, 0, none⟩ = some (.float .f64 x1.1) := by rw [cell_of_row wr b1 0 _ _ (0, 0) k1]; rfl
    have a4 : wr.cell? ⟨b1, 1, none⟩ = some (.float .f64 y1.1) := by rw [cell_of_row wr b1 1 _ _ (0, 0) k1]; rfl
    have a5 : wr.cell? ⟨b1, 2, none⟩ = some (.float .f64 t1.1) := by rw [cell_of_row wr b1 2 _ _ (0, 0) k1]; rfl
    have a6 : wr.cell? ⟨b2, 0, none⟩ = some (.float .f64 x2.1) := by rw [cell_of_row wr b2 0 _ _ (0, 0) k2]; rfl
    have a7 : wr.cell? ⟨b2, 1, none⟩ = some (.float .f64 y2.1) := by rw [cell_of_row wr b2 1 _ _ (0, 0) k2]; rfl
    have a8 : wr.cell? ⟨b2, 2, none⟩ = some (.float .f64 t2.1) := by rw [cell_of_row wr b2 2 _ _ (0, 0) k2]; rfl
    have HU : Hid (RRow (ax - dx) (ay - dy) x0 y0 t0 ∧ RRow (bx - dx) (by' - dy) x1 y1 t1 ∧ RRow (cx - dx) (cy - dy) x2 y2 t2) := ⟨hu, hv, hw⟩
    rw [hp0, hp1, hp2]
    clear hu hv hw hc0 hc1 hc2 hr0 hr1 hr2 hp0 hp1 hp2 k0 k1 k2 H hall HS HW
    go_wp2_with fail
    refine (roughTerm_any _ HU.out.1 HU.out.2.1 HU.out.2.2).mono ?_
    rintro e w1 ⟨v1, z1, rfl, H1⟩
    have r1 := H1.out.1.rule
    go_wp2_with fail
    refine (roughTerm_any _ HU.out.2.1 HU.out.2.2 HU.out.1).mono ?_
    rintro e w2 ⟨v2, z2, rfl, H2⟩
    clear r1
    have r2 := (H1.out.1.trans' H2.out.1).rule
    go_wp2_with fail
    refine (roughTerm_any _ HU.out.2.2 HU.out.1 HU.out.2.1).mono ?_
    rintro e w3 ⟨v3, z3, rfl, H3⟩
    clear r2
    obtain ⟨a, d, b, t, s, zd, S, e1, e2, e3, e4, e5, fd, fs, q1, q2⟩ := circle_words H1.out.2 H2.out.2 H3.out.2
    have HQ : Hid ((S < zd * 2 ^ 49 → 0 < cdet ax ay bx by' cx cy dx dy) ∧ (zd * 2 ^ 49 < -S → cdet ax ay bx by' cx cy dx dy < 0) ∧ New w w3) := ⟨q1, q2, ((HN.out.trans' H1.out.1).trans' H2.out.1).trans' H3.out.1⟩
    have g1 := fadd e1 81
    have g2 := fadd e2 81
    have g3 := fadd e3 81
    have g4 := fadd e4 81
    have g5 := fmul e5 81
    clear q1 q2 e1 e2 e3 e4 e5 H1 H2 H3 HU HN a0 a1 a2 a3 a4 a5 a6 a7 a8 l0 l1 l2
    go_wp2_with fail
    refine (signBeyond_any d s zd S 49 _ fd fs).mono ?_
    rintro e w5 ⟨sg, bb, rfl, rfl, H5⟩
    go_wp2_with fail
    go_ret2
    refine ⟨sg, bb, rfl, HQ.out.2.2, fun hb => ?_⟩
    rcases H5.out hb with ⟨rfl, h⟩ | ⟨rfl, h⟩
    · have := HQ.out.1 h
      unfold sgn; rw [if_neg (by omega), if_neg (by omega)]
    · have := HQ.out.2.1 h
      unfold sgn; rw [if_pos this]

end Go.Proofs.Ytgeoffpcmkofkaa
