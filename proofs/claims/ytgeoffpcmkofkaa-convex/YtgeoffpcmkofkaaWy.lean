/- The walk of 'exactCircle'. -/
import Derived.Test.YtgeoffpcmkofkaaWx
namespace Go.Proofs.Ytgeoffpcmkofkaa
open Go.RowKit Fl
set_option maxRecDepth 100000

/-- The rows, not rounded. -/
def ER (ax ay bx by' cx cy dx dy : Int) (j : Fin 3) (v : Value) (w : World) : Prop :=
  ∃ (g1 g2 g3 c3 : Nat) (x y s : Ws), v = .agg #[.slice (some ⟨g1, 0, none⟩) x.length 2, .slice (some ⟨g2, 0, none⟩) y.length 2, .slice (some ⟨g3, 0, none⟩) s.length c3] ∧ ERow w ((if j = 0 then ax else if j = 1 then bx else cx) - dx) ((if j = 0 then ay else if j = 1 then by' else cy) - dy) g1 g2 g3 c3 x y s

section
variable {ax ay bx by' cx cy dx dy : Int}
theorem er_new : ∀ (j : Fin 3) (v : Value) (w w' : World), ER ax ay bx by' cx cy dx dy j v w → New w w' → ER ax ay bx by' cx cy dx dy j v w' := by
  rintro j v w w' ⟨g1, g2, g3, c3, x, y, s, e, h⟩ hn
  exact ⟨g1, g2, g3, c3, x, y, s, e, h.kept hn⟩
theorem er_set : ∀ (j : Fin 3) (v : Value) (w : World) (b : Nat) (x0 x1 x2 : Value), ER ax ay bx by' cx cy dx dy j v w → w.heap[b]? = some (.cells #[.slice none 0 0, .slice none 0 0, .slice none 0 0] 97 (0, 0)) → ER ax ay bx by' cx cy dx dy j v (((w.setCell ⟨b, 0, none⟩ x0).setCell ⟨b, 1, none⟩ x1).setCell ⟨b, 2, none⟩ x2) := by
  rintro j v w b x0 x1 x2 ⟨g1, g2, g3, c3, x, y, s, e, h⟩ hb
  exact ⟨g1, g2, g3, c3, x, y, s, e, h.nx.set3 (h.nx.lst.ne_block hb (by decide)) _ _ _, h.ny.set3 (h.ny.lst.ne_block hb (by decide)) _ _ _, h.ns.set3 (h.ns.lst.ne_block hb (by decide)) _ _ _⟩
theorem er_mk0 {g1 g2 g3 c3 : Nat} {x y s : Ws} {w : World} (h : ERow w (ax - dx) (ay - dy) g1 g2 g3 c3 x y s) : ER ax ay bx by' cx cy dx dy 0 (.agg #[.slice (some ⟨g1, 0, none⟩) x.length 2, .slice (some ⟨g2, 0, none⟩) y.length 2, .slice (some ⟨g3, 0, none⟩) s.length c3]) w := ⟨_, _, _, _, _, _, _, rfl, h⟩
theorem er_mk1 {g1 g2 g3 c3 : Nat} {x y s : Ws} {w : World} (h : ERow w (bx - dx) (by' - dy) g1 g2 g3 c3 x y s) : ER ax ay bx by' cx cy dx dy 1 (.agg #[.slice (some ⟨g1, 0, none⟩) x.length 2, .slice (some ⟨g2, 0, none⟩) y.length 2, .slice (some ⟨g3, 0, none⟩) s.length c3]) w := ⟨_, _, _, _, _, _, _, rfl, h⟩
theorem er_mk2 {g1 g2 g3 c3 : Nat} {x y s : Ws} {w : World} (h : ERow w (cx - dx) (cy - dy) g1 g2 g3 c3 x y s) : ER ax ay bx by' cx cy dx dy 2 (.agg #[.slice (some ⟨g1, 0, none⟩) x.length 2, .slice (some ⟨g2, 0, none⟩) y.length 2, .slice (some ⟨g3, 0, none⟩) s.length c3]) w := ⟨_, _, _, _, _, _, _, rfl, h⟩
theorem er_form {j : Fin 3} {v : Value} {w : World} (h : ER ax ay bx by' cx cy dx dy j v w) : ∃ (y0 : Nat) (n0 k0 : Nat) (y1 : Nat) (n1 k1 : Nat) (y2 : Nat) (n2 k2 : Nat), v = .agg #[.slice (some ⟨y0, 0, none⟩) n0 k0, .slice (some ⟨y1, 0, none⟩) n1 k1, .slice (some ⟨y2, 0, none⟩) n2 k2] := by
  obtain ⟨g1, g2, g3, c3, x, y, s, e, _⟩ := h
  exact ⟨_, _, _, _, _, _, _, _, _, e⟩
end

theorem nine_keep {W w' : World} {b0 b1 b2 : Nat} {p0 p1 p2 q0 q1 q2 r0 r1 r2 : Value} (hn : New W w') (hs : b0 < W.heap.size ∧ b1 < W.heap.size ∧ b2 < W.heap.size ∧ W.cell? ⟨b0, 0, none⟩ = some p0 ∧ W.cell? ⟨b0, 1, none⟩ = some p1 ∧ W.cell? ⟨b0, 2, none⟩ = some p2 ∧ W.cell? ⟨b1, 0, none⟩ = some q0 ∧ W.cell? ⟨b1, 1, none⟩ = some q1 ∧ W.cell? ⟨b1, 2, none⟩ = some q2 ∧ W.cell? ⟨b2, 0, none⟩ = some r0 ∧ W.cell? ⟨b2, 1, none⟩ = some r1 ∧ W.cell? ⟨b2, 2, none⟩ = some r2) :
    b0 < w'.heap.size ∧ b1 < w'.heap.size ∧ b2 < w'.heap.size ∧ w'.cell? ⟨b0, 0, none⟩ = some p0 ∧ w'.cell? ⟨b0, 1, none⟩ = some p1 ∧ w'.cell? ⟨b0, 2, none⟩ = some p2 ∧ w'.cell? ⟨b1, 0, none⟩ = some q0 ∧ w'.cell? ⟨b1, 1, none⟩ = some q1 ∧ w'.cell? ⟨b1, 2, none⟩ = some q2 ∧ w'.cell? ⟨b2, 0, none⟩ = some r0 ∧ w'.cell? ⟨b2, 1, none⟩ = some r1 ∧ w'.cell? ⟨b2, 2, none⟩ = some r2 := by
  obtain ⟨h0, h1, h2, a0, a1, a2, a3, a4, a5, a6, a7, a8⟩ := hs
  have := hn.size
  refine ⟨by omega, by omega, by omega, ?_, ?_, ?_, ?_, ?_, ?_, ?_, ?_, ?_⟩
  all_goals (rw [hn.rule _ _ (by omega)]; assumption)

set_option maxHeartbeats 6400000 in
theorem exactCircle_any (ax ay bx by' cx cy dx dy : Int) (w : World) (h1 : Cd ax) (h2 : Cd ay) (h3 : Cd bx) (h4 : Cd by') (h5 : Cd cx) (h6 : Cd cy) (h7 : Cd dx) (h8 : Cd dy) :
    Calls Try.prog 63 #[.agg #[.int .i64 ax, .int .i64 ay], .agg #[.int .i64 bx, .int .i64 by'], .agg #[.int .i64 cx, .int .i64 cy], .agg #[.int .i64 dx, .int .i64 dy]] w fun e w' =>
      e = .returned (.int .i64 (sgn (cdet ax ay bx by' cx cy dx dy))) ∧ Hid (New w w') := by
  obtain ⟨W, hW⟩ : ∃ W, W = (((w.alloc (.cells #[.int .i64 ax, .int .i64 ay] 23)).alloc (.cells #[.int .i64 bx, .int .i64 by'] 23)).alloc (.cells #[.int .i64 cx, .int .i64 cy] 23)).alloc (.cells #[.int .i64 dx, .int .i64 dy] 23) := ⟨_, rfl⟩
  have HW : Hid (New w W) := by rw [hW]; exact (((New.alloc _ _).alloc' _).alloc' _).alloc' _
  have HS : Hid (w.heap.size + 1 + 1 + 1 < W.heap.size ∧ W.cell? ⟨w.heap.size, 0, none⟩ = some (.int .i64 ax) ∧ W.cell? ⟨w.heap.size, 1, none⟩ = some (.int .i64 ay) ∧ W.cell? ⟨w.heap.size + 1, 0, none⟩ = some (.int .i64 bx) ∧ W.cell? ⟨w.heap.size + 1, 1, none⟩ = some (.int .i64 by') ∧ W.cell? ⟨w.heap.size + 1 + 1, 0, none⟩ = some (.int .i64 cx) ∧ W.cell? ⟨w.heap.size + 1 + 1, 1, none⟩ = some (.int .i64 cy) ∧ W.cell? ⟨w.heap.size + 1 + 1 + 1, 0, none⟩ = some (.int .i64 dx) ∧ W.cell? ⟨w.heap.size + 1 + 1 + 1, 1, none⟩ = some (.int .i64 dy)) := by
    rw [hW]
    refine ⟨by simp, ?_, ?_, ?_, ?_, ?_, ?_, ?_, ?_⟩ <;> go_simp
  go_enter Try.func63, Try.ntmps63
  go_wp2_with fail
  rw [← hW]
  clear hW
  refine wp_region_inv (by kernel_rfl) (fun listed a' w' => ∃ (p r : Fin 3 → Value) (s0 s1 s3 s4 s6 s7 : Value), a' = { tmps := #[.agg #[.int .i64 ax, .int .i64 ay], .agg #[.int .i64 bx, .int .i64 by'], .agg #[.int .i64 cx, .int .i64 cy], .agg #[.int .i64 dx, .int .i64 dy], .pointer (some ⟨w.heap.size, 0, none⟩), .pointer (some ⟨w.heap.size + 1, 0, none⟩), .pointer (some ⟨w.heap.size + 1 + 1, 0, none⟩), .pointer (some ⟨w.heap.size + 1 + 1 + 1, 0, none⟩), .int .i64 0, p 0, p 1, p 2, s0, s1, r 0, s3, s4, r 1, s6, s7, r 2, undef, undef, undef, undef, undef, undef, undef, undef, undef, undef, undef, undef, undef, undef, undef], defers := [] } ∧ Hid (Trio W w' 97 #[.slice none 0 0, .slice none 0 0, .slice none 0 0] (ER ax ay bx by' cx cy dx dy) listed p r ∧ Lds listed (.agg #[.int .i64 ax, .int .i64 ay]) (.agg #[.int .i64 bx, .int .i64 by']) (.agg #[.int .i64 cx, .int .i64 cy]) (.agg #[.int .i64 dx, .int .i64 dy]) s0 s1 s3 s4 s6 s7)) ?hac ?hg ?start ?step ?fin
  case hac => exact edges_ok (by kernel_rfl)
  case hg => exact guards_ok (by kernel_rfl)
  case start => exact ⟨fun _ => undef, fun _ => undef, undef, undef, undef, undef, undef, undef, rfl, Trio.start ((New.refl W).drewN 1) _, Lds.start _⟩
  case step =>
    rintro listed a' wr i o ⟨p, r, s0, s1, s3, s4, s6, s7, rfl, H⟩ ho hr
    have hm := hr.mine
    have hah := hr.ahead
    have q0 := eight_keep H.out.1.new HS.out
    obtain ⟨e0, e1, e2, e3, e4, e5, e6, e7, e8⟩ := q0
    clear hr e0
    match i, ho with
    | 0, ho =>
      obtain rfl := Option.some.inj (show some _ = some o from ho)
      refine wpK fun K' hK => ?_
      clear hah ho
      have HM : Hid (listed.getD 0 true = false) := hm
      clear hm
      go_simp
      exact hK.out _ _ ⟨p, r, (.agg #[.int .i64 ax, .int .i64 ay]), s1, s3, s4, s6, s7, rfl, H.out.1.load HM.out (by intro j; omega) (by omega), H.out.2.set0 HM.out⟩
    | 1, ho =>
      obtain rfl := Option.some.inj (show some _ = some o from ho)
      refine wpK fun K' hK => ?_
      clear hah ho
      have HM : Hid (listed.getD 1 true = false) := hm
      clear hm
      go_simp
      exact hK.out _ _ ⟨p, r, s0, (.agg #[.int .i64 dx, .int .i64 dy]), s3, s4, s6, s7, rfl, H.out.1.load HM.out (by intro j; omega) (by omega), H.out.2.set1 HM.out⟩
    | 2, ho =>
      obtain rfl := Option.some.inj (show some _ = some o from ho)
      have d0 := H.out.2.l0 (hah ⟨0, .data⟩ (by simp) rfl)
      have d1 := H.out.2.l1 (hah ⟨1, .data⟩ (by simp) rfl)
      subst d0 d1
      refine wpK fun K' hK => ?_
      clear hah ho
      have HM : Hid (listed.getD 2 true = false) := hm
      clear hm
      go_simp
      refine (newExactRow_any ax ay dx dy _ h1 h2 h7 h8).mono ?_
      rintro e w2 ⟨g1, g2, g3, c3, x, y, s, rfl, HC⟩
      dsimp only
      exact hK.out _ _ ⟨p, upd r 0 _, _, _, _, _, _, _, rfl, H.out.1.call er_new 0 HM.out HC.out.1 (er_mk0 HC.out.2), H.out.2.keep HM.out (by decide)⟩
    | 3, ho =>
      obtain rfl := Option.some.inj (show some _ = some o from ho)
      refine wpK fun K' hK => ?_
      clear hah ho
      have HM : Hid (listed.getD 3 true = false) := hm
      clear hm
      go_simp
      exact hK.out _ _ ⟨p, r, s0, s1, (.agg #[.int .i64 bx, .int .i64 by']), s4, s6, s7, rfl, H.out.1.load HM.out (by intro j; omega) (by omega), H.out.2.set3 HM.out⟩
    | 4, ho =>
      obtain rfl := Option.some.inj (show some _ = some o from ho)
      refine wpK fun K' hK => ?_
      clear hah ho
      have HM : Hid (listed.getD 4 true = false) := hm
      clear hm
      go_simp
      exact hK.out _ _ ⟨p, r, s0, s1, s3, (.agg #[.int .i64 dx, .int .i64 dy]), s6, s7, rfl, H.out.1.load HM.out (by intro j; omega) (by omega), H.out.2.set4 HM.out⟩
    | 5, ho =>
      obtain rfl := Option.some.inj (show some _ = some o from ho)
      have d0 := H.out.2.l3 (hah ⟨3, .data⟩ (by simp) rfl)
      have d1 := H.out.2.l4 (hah ⟨4, .data⟩ (by simp) rfl)
      subst d0 d1
      refine wpK fun K' hK => ?_
      clear hah ho
      have HM : Hid (listed.getD 5 true = false) := hm
      clear hm
      go_simp
      refine (newExactRow_any bx by' dx dy _ h3 h4 h7 h8).mono ?_
      rintro e w2 ⟨g1, g2, g3, c3, x, y, s, rfl, HC⟩
      dsimp only
      exact hK.out _ _ ⟨p, upd r 1 _, _, _, _, _, _, _, rfl, H.out.1.call er_new 1 HM.out HC.out.1 (er_mk1 HC.out.2), H.out.2.keep HM.out (by decide)⟩
    | 6, ho =>
      obtain rfl := Option.some.inj (show some _ = some o from ho)
      refine wpK fun K' hK => ?_
      clear hah ho
      have HM : Hid (listed.getD 6 true = false) := hm
      clear hm
      go_simp
      exact hK.out _ _ ⟨p, r, s0, s1, s3, s4, (.agg #[.int .i64 cx, .int .i64 cy]), s7, rfl, H.out.1.load HM.out (by intro j; omega) (by omega), H.out.2.set6 HM.out⟩
    | 7, ho =>
      obtain rfl := Option.some.inj (show some _ = some o from ho)
      refine wpK fun K' hK => ?_
      clear hah ho
      have HM : Hid (listed.getD 7 true = false) := hm
      clear hm
      go_simp
      exact hK.out _ _ ⟨p, r, s0, s1, s3, s4, s6, (.agg #[.int .i64 dx, .int .i64 dy]), rfl, H.out.1.load HM.out (by intro j; omega) (by omega), H.out.2.set7 HM.out⟩
    | 8, ho =>
      obtain rfl := Option.some.inj (show some _ = some o from ho)
      have d0 := H.out.2.l6 (hah ⟨6, .data⟩ (by simp) rfl)
      have d1 := H.out.2.l7 (hah ⟨7, .data⟩ (by simp) rfl)
      subst d0 d1
      refine wpK fun K' hK => ?_
      clear hah ho
      have HM : Hid (listed.getD 8 true = false) := hm
      clear hm
      go_simp
      refine (newExactRow_any cx cy dx dy _ h5 h6 h7 h8).mono ?_
      rintro e w2 ⟨g1, g2, g3, c3, x, y, s, rfl, HC⟩
      dsimp only
      exact hK.out _ _ ⟨p, upd r 2 _, _, _, _, _, _, _, rfl, H.out.1.call er_new 2 HM.out HC.out.1 (er_mk2 HC.out.2), H.out.2.keep HM.out (by decide)⟩
    | 9, ho =>
      obtain rfl := Option.some.inj (show some _ = some o from ho)
      refine wpK fun K' hK => ?_
      clear hah ho
      have HM : Hid (listed.getD 9 true = false) := hm
      clear hm
      go_simp
      exact hK.out _ _ ⟨upd p 0 _, r, s0, s1, s3, s4, s6, s7, rfl, H.out.1.alloc er_new 0 HM.out, H.out.2.keep HM.out (by decide)⟩
    | 10, ho =>
      obtain rfl := Option.some.inj (show some _ = some o from ho)
      refine wpK fun K' hK => ?_
      clear hah ho
      have HM : Hid (listed.getD 10 true = false) := hm
      clear hm
      go_simp
      exact hK.out _ _ ⟨upd p 1 _, r, s0, s1, s3, s4, s6, s7, rfl, H.out.1.alloc er_new 1 HM.out, H.out.2.keep HM.out (by decide)⟩
    | 11, ho =>
      obtain rfl := Option.some.inj (show some _ = some o from ho)
      refine wpK fun K' hK => ?_
      clear hah ho
      have HM : Hid (listed.getD 11 true = false) := hm
      clear hm
      go_simp
      exact hK.out _ _ ⟨upd p 2 _, r, s0, s1, s3, s4, s6, s7, rfl, H.out.1.alloc er_new 2 HM.out, H.out.2.keep HM.out (by decide)⟩
    | 12, ho =>
      obtain rfl := Option.some.inj (show some _ = some o from ho)
      have da := hah ⟨9, .data⟩ (by simp) rfl
      have dc := hah ⟨2, .data⟩ (by simp) rfl
      obtain ⟨b, hp, hW, hz, _⟩ := H.out.1.ptr 0 da
      obtain ⟨⟨x0, x1, x2, hx⟩, hR⟩ := H.out.1.row 0 dc
      have hf : listed.getD 12 false = false := getD_false hm
      have hzz := hz hf
      have HM : Hid (Trio W (((wr.setCell ⟨b, 0, none⟩ x0).setCell ⟨b, 1, none⟩ x1).setCell ⟨b, 2, none⟩ x2) 97 #[.slice none 0 0, .slice none 0 0, .slice none 0 0] (ER ax ay bx by' cx cy dx dy) (listed.setIfInBounds 12 true) p r ∧ Lds (listed.setIfInBounds 12 true) (.agg #[.int .i64 ax, .int .i64 ay]) (.agg #[.int .i64 bx, .int .i64 by']) (.agg #[.int .i64 cx, .int .i64 cy]) (.agg #[.int .i64 dx, .int .i64 dy]) s0 s1 s3 s4 s6 s7) := ⟨H.out.1.store er_set 0 hm rfl hp hx hzz hW da dc, H.out.2.keep hm (by decide)⟩
      have HP : Hid (p 0 = .pointer (some ⟨b, 0, none⟩) ∧ r 0 = .agg #[x0, x1, x2]) := ⟨hp, hx⟩
      have c0 : wr.cell? ⟨b, 0, none⟩ = some (.slice none 0 0) := by rw [cell_of_row wr b 0 _ _ (0, 0) hzz]; rfl
      have c1 : wr.cell? ⟨b, 1, none⟩ = some (.slice none 0 0) := by rw [cell_of_row wr b 1 _ _ (0, 0) hzz]; rfl
      have c2 : wr.cell? ⟨b, 2, none⟩ = some (.slice none 0 0) := by rw [cell_of_row wr b 2 _ _ (0, 0) hzz]; rfl
      have f0 := frozen_of_row wr b 0 _ _ hzz
      have f1 := frozen_of_row wr b 1 _ _ hzz
      have f2 := frozen_of_row wr b 2 _ _ hzz
      refine wpK fun K' hK => ?_
      obtain ⟨y0, n0, k0, y1, n1, k1, y2, n2, k2, ey⟩ := er_form hR
      rw [hx] at ey
      simp only [Value.agg.injEq, Array.mk.injEq, List.cons.injEq, and_true] at ey
      obtain ⟨rfl, rfl, rfl⟩ := ey
      clear hah ho hm da dc hz hf hzz hR hW e1 e2 e3 e4 e5 e6 e7 e8
      go_simp
      refine cast (congrArg (fun a => K' a _) ?_) (hK.out _ _ ⟨p, r, s0, s1, s3, s4, s6, s7, rfl, HM.out.1, HM.out.2⟩)
      rw [hp, hx]
    | 13, ho =>
      obtain rfl := Option.some.inj (show some _ = some o from ho)
      have da := hah ⟨10, .data⟩ (by simp) rfl
      have dc := hah ⟨5, .data⟩ (by simp) rfl
      obtain ⟨b, hp, hW, hz, _⟩ := H.out.1.ptr 1 da
      obtain ⟨⟨x0, x1, x2, hx⟩, hR⟩ := H.out.1.row 1 dc
      have hf : listed.getD 13 false = false := getD_false hm
      have hzz := hz hf
      have HM : Hid (Trio W (((wr.setCell ⟨b, 0, none⟩ x0).setCell ⟨b, 1, none⟩ x1).setCell ⟨b, 2, none⟩ x2) 97 #[.slice none 0 0, .slice none 0 0, .slice none 0 0] (ER ax ay bx by' cx cy dx dy) (listed.setIfInBounds 13 true) p r ∧ Lds (listed.setIfInBounds 13 true) (.agg #[.int .i64 ax, .int .i64 ay]) (.agg #[.int .i64 bx, .int .i64 by']) (.agg #[.int .i64 cx, .int .i64 cy]) (.agg #[.int .i64 dx, .int .i64 dy]) s0 s1 s3 s4 s6 s7) := ⟨H.out.1.store er_set 1 hm rfl hp hx hzz hW da dc, H.out.2.keep hm (by decide)⟩
      have HP : Hid (p 1 = .pointer (some ⟨b, 0, none⟩) ∧ r 1 = .agg #[x0, x1, x2]) := ⟨hp, hx⟩
      have c0 : wr.cell? ⟨b, 0, none⟩ = some (.slice none 0 0) := by rw [cell_of_row wr b 0 _ _ (0, 0) hzz]; rfl
      have c1 : wr.cell? ⟨b, 1, none⟩ = some (.slice none 0 0) := by rw [cell_of_row wr b 1 _ _ (0, 0) hzz]; rfl
      have c2 : wr.cell? ⟨b, 2, none⟩ = some (.slice none 0 0) := by rw [cell_of_row wr b 2 _ _ (0, 0) hzz]; rfl
      have f0 := frozen_of_row wr b 0 _ _ hzz
      have f1 := frozen_of_row wr b 1 _ _ hzz
      have f2 := frozen_of_row wr b 2 _ _ hzz
      refine wpK fun K' hK => ?_
      obtain ⟨y0, n0, k0, y1, n1, k1, y2, n2, k2, ey⟩ := er_form hR
      rw [hx] at ey
      simp only [Value.agg.injEq, Array.mk.injEq, List.cons.injEq, and_true] at ey
      obtain ⟨rfl, rfl, rfl⟩ := ey
      clear hah ho hm da dc hz hf hzz hR hW e1 e2 e3 e4 e5 e6 e7 e8
      go_simp
      refine cast (congrArg (fun a => K' a _) ?_) (hK.out _ _ ⟨p, r, s0, s1, s3, s4, s6, s7, rfl, HM.out.1, HM.out.2⟩)
      rw [hp, hx]
    | 14, ho =>
      obtain rfl := Option.some.inj (show some _ = some o from ho)
      have da := hah ⟨11, .data⟩ (by simp) rfl
      have dc := hah ⟨8, .data⟩ (by simp) rfl
      obtain ⟨b, hp, hW, hz, _⟩ := H.out.1.ptr 2 da
      obtain ⟨⟨x0, x1, x2, hx⟩, hR⟩ := H.out.1.row 2 dc
      have hf : listed.getD 14 false = false := getD_false hm
      have hzz := hz hf
      have HM : Hid (Trio W (((wr.setCell ⟨b, 0, none⟩ x0).setCell ⟨b, 1, none⟩ x1).setCell ⟨b, 2, none⟩ x2) 97 #[.slice none 0 0, .slice none 0 0, .slice none 0 0] (ER ax ay bx by' cx cy dx dy) (listed.setIfInBounds 14 true) p r ∧ Lds (listed.setIfInBounds 14 true) (.agg #[.int .i64 ax, .int .i64 ay]) (.agg #[.int .i64 bx, .int .i64 by']) (.agg #[.int .i64 cx, .int .i64 cy]) (.agg #[.int .i64 dx, .int .i64 dy]) s0 s1 s3 s4 s6 s7) := ⟨H.out.1.store er_set 2 hm rfl hp hx hzz hW da dc, H.out.2.keep hm (by decide)⟩
      have HP : Hid (p 2 = .pointer (some ⟨b, 0, none⟩) ∧ r 2 = .agg #[x0, x1, x2]) := ⟨hp, hx⟩
      have c0 : wr.cell? ⟨b, 0, none⟩ = some (.slice none 0 0) := by rw [cell_of_row wr b 0 _ _ (0, 0) hzz]; rfl
      have c1 : wr.cell? ⟨b, 1, none⟩ = some (.slice none 0 0) := by rw [cell_of_row wr b 1 _ _ (0, 0) hzz]; rfl
      have c2 : wr.cell? ⟨b, 2, none⟩ = some (.slice none 0 0) := by rw [cell_of_row wr b 2 _ _ (0, 0) hzz]; rfl
      have f0 := frozen_of_row wr b 0 _ _ hzz
      have f1 := frozen_of_row wr b 1 _ _ hzz
      have f2 := frozen_of_row wr b 2 _ _ hzz
      refine wpK fun K' hK => ?_
      obtain ⟨y0, n0, k0, y1, n1, k1, y2, n2, k2, ey⟩ := er_form hR
      rw [hx] at ey
      simp only [Value.agg.injEq, Array.mk.injEq, List.cons.injEq, and_true] at ey
      obtain ⟨rfl, rfl, rfl⟩ := ey
      clear hah ho hm da dc hz hf hzz hR hW e1 e2 e3 e4 e5 e6 e7 e8
      go_simp
      refine cast (congrArg (fun a => K' a _) ?_) (hK.out _ _ ⟨p, r, s0, s1, s3, s4, s6, s7, rfl, HM.out.1, HM.out.2⟩)
      rw [hp, hx]
    | n + 15, ho => exact absurd ho (by simp)
  case fin =>
    rintro listed a' wr ⟨p, r, s0', s1', s3', s4', s6', s7', rfl, H⟩ hall
    obtain ⟨x0, y0, s0, c0, k0, l0, m0, hr0, hu⟩ := (H.out.1.row 0 (hall 2 (by decide))).2
    obtain ⟨x1, y1, s1, c1, k1, l1, m1, hr1, hv⟩ := (H.out.1.row 1 (hall 5 (by decide))).2
    obtain ⟨x2, y2, s2, c2, k2, l2, m2, hr2, hw⟩ := (H.out.1.row 2 (hall 8 (by decide))).2
    obtain ⟨b0, hp0, _, _, hc0⟩ := H.out.1.ptr 0 (hall 9 (by decide))
    obtain ⟨b1, hp1, _, _, hc1⟩ := H.out.1.ptr 1 (hall 10 (by decide))
    obtain ⟨b2, hp2, _, _, hc2⟩ := H.out.1.ptr 2 (hall 11 (by decide))
    obtain ⟨_, _, _, i0, e0⟩ := hc0 (hall 12 (by decide))
    obtain ⟨_, _, _, i1, e1⟩ := hc1 (hall 13 (by decide))
    obtain ⟨_, _, _, i2, e2⟩ := hc2 (hall 14 (by decide))
    rw [hr0] at i0
    rw [hr1] at i1
    rw [hr2] at i2
    cases i0
    cases i1
    cases i2
    have a0 : wr.cell? ⟨b0, 0, none⟩ = some (.slice (some ⟨x0, 0, none⟩) k0.length 2) := by rw [cell_of_row wr b0 0 _ _ (0, 0) e0]; rfl
    have a1 : wr.cell? ⟨b0, 1, none⟩ = some (.slice (some ⟨y0, 0, none⟩) l0.length 2) := by rw [cell_of_row wr b0 1 _ _ (0, 0) e0]; rfl
    have a2 : wr.cell? ⟨b0, 2, none⟩ = some (.slice (some ⟨s0, 0, none⟩) m0.length c0) := by rw [cell_of_row wr b0 2 _ _ (0, 0) e0]; rfl
    have a3 : wr.cell? ⟨b1, 0, none⟩ = some (.slice (some ⟨x1, 0, none⟩) k1.length 2) := by rw [cell_of_row wr b1 0 _ _ (0, 0) e1]; rfl
    have a4 : wr.cell? ⟨b1, 1, none⟩ = some (.slice (some ⟨y1, 0, none⟩) l1.length 2) := by rw [cell_of_row wr b1 1 _ _ (0, 0) e1]; rfl
    have a5 : wr.cell? ⟨b1, 2, none⟩ = some (.slice (some ⟨s1, 0, none⟩) m1.length c1) := by rw [cell_of_row wr b1 2 _ _ (0, 0) e1]; rfl
    have a6 : wr.cell? ⟨b2, 0, none⟩ = some (.slice (some ⟨x2, 0, none⟩) k2.length 2) := by rw [cell_of_row wr b2 0 _ _ (0, 0) e2]; rfl
    have a7 : wr.cell? ⟨b2, 1, none⟩ = some (.slice (some ⟨y2, 0, none⟩) l2.length 2) := by rw [cell_of_row wr b2 1 _ _ (0, 0) e2]; rfl
    have a8 : wr.cell? ⟨b2, 2, none⟩ = some (.slice (some ⟨s2, 0, none⟩) m2.length c2) := by rw [cell_of_row wr b2 2 _ _ (0, 0) e2]; rfl
    have hS : b0 < wr.heap.size ∧ b1 < wr.heap.size ∧ b2 < wr.heap.size ∧ wr.cell? ⟨b0, 0, none⟩ = some (.slice (some ⟨x0, 0, none⟩) k0.length 2) ∧ wr.cell? ⟨b0, 1, none⟩ = some (.slice (some ⟨y0, 0, none⟩) l0.length 2) ∧ wr.cell? ⟨b0, 2, none⟩ = some (.slice (some ⟨s0, 0, none⟩) m0.length c0) ∧ wr.cell? ⟨b1, 0, none⟩ = some (.slice (some ⟨x1, 0, none⟩) k1.length 2) ∧ wr.cell? ⟨b1, 1, none⟩ = some (.slice (some ⟨y1, 0, none⟩) l1.length 2) ∧ wr.cell? ⟨b1, 2, none⟩ = some (.slice (some ⟨s1, 0, none⟩) m1.length c1) ∧ wr.cell? ⟨b2, 0, none⟩ = some (.slice (some ⟨x2, 0, none⟩) k2.length 2) ∧ wr.cell? ⟨b2, 1, none⟩ = some (.slice (some ⟨y2, 0, none⟩) l2.length 2) ∧ wr.cell? ⟨b2, 2, none⟩ = some (.slice (some ⟨s2, 0, none⟩) m2.length c2) := ⟨lt_of_block e0, lt_of_block e1, lt_of_block e2, a0, a1, a2, a3, a4, a5, a6, a7, a8⟩
    have HN : Hid (New w wr.drew) := (HW.out.trans' H.out.1.new).drewN 1
    have HD : Hid (New wr wr.drew) := (New.refl wr).drewN 1
    have HU : Hid (ERow wr.drew (ax - dx) (ay - dy) x0 y0 s0 c0 k0 l0 m0 ∧ ERow wr.drew (bx - dx) (by' - dy) x1 y1 s1 c1 k1 l1 m1 ∧ ERow wr.drew (cx - dx) (cy - dy) x2 y2 s2 c2 k2 l2 m2) := ⟨hu.kept HD.out, hv.kept HD.out, hw.kept HD.out⟩
    rw [hp0, hp1, hp2]
    clear a0 a1 a2 a3 a4 a5 a6 a7 a8 hu hv hw hc0 hc1 hc2 hr0 hr1 hr2 hp0 hp1 hp2 e0 e1 e2 H hall HS HW
    go_wp2_with fail
    go_region_held3 (fun w' => b0 < w'.heap.size ∧ b1 < w'.heap.size ∧ b2 < w'.heap.size ∧ w'.cell? ⟨b0, 0, none⟩ = some (.slice (some ⟨x0, 0, none⟩) k0.length 2) ∧ w'.cell? ⟨b0, 1, none⟩ = some (.slice (some ⟨y0, 0, none⟩) l0.length 2) ∧ w'.cell? ⟨b0, 2, none⟩ = some (.slice (some ⟨s0, 0, none⟩) m0.length c0) ∧ w'.cell? ⟨b1, 0, none⟩ = some (.slice (some ⟨x1, 0, none⟩) k1.length 2) ∧ w'.cell? ⟨b1, 1, none⟩ = some (.slice (some ⟨y1, 0, none⟩) l1.length 2) ∧ w'.cell? ⟨b1, 2, none⟩ = some (.slice (some ⟨s1, 0, none⟩) m1.length c1) ∧ w'.cell? ⟨b2, 0, none⟩ = some (.slice (some ⟨x2, 0, none⟩) k2.length 2) ∧ w'.cell? ⟨b2, 1, none⟩ = some (.slice (some ⟨y2, 0, none⟩) l2.length 2) ∧ w'.cell? ⟨b2, 2, none⟩ = some (.slice (some ⟨s2, 0, none⟩) m2.length c2))
      (first | exact hS | exact nine_keep H6.out (by assumption) | exact nine_keep H5.out.2.2 (by assumption) | exact nine_keep H4.out.1 (by assumption) | exact nine_keep H3.out.2.2 (by assumption) | exact nine_keep H2.out.1 (by assumption) | exact nine_keep H1.out.1 (by assumption) | go_keep)
      (first
        | (go_at_call 82; refine (exactTerm_any _ (((HU.out.2.2.kept H1.out.1).kept H2.out.1).kept H3.out.2.2) (((HU.out.1.kept H1.out.1).kept H2.out.1).kept H3.out.2.2) (((HU.out.2.1.kept H1.out.1).kept H2.out.1).kept H3.out.2.2)).mono ?_; rintro e w4 ⟨g4, d4, z4, rfl, H4⟩)
        | (go_at_call 82; refine (exactTerm_any _ (HU.out.2.1.kept H1.out.1) (HU.out.2.2.kept H1.out.1) (HU.out.1.kept H1.out.1)).mono ?_; rintro e w2 ⟨g2, d2, z2, rfl, H2⟩)
        | (go_at_call 82; refine (exactTerm_any _ HU.out.1 HU.out.2.1 HU.out.2.2).mono ?_; rintro e w1 ⟨g1, d1, z1, rfl, H1⟩)
        | (go_at_call 83; refine (plus_nm (H3.out.1.kept H4.out.1) ⟨H4.out.2.lst, H4.out.2.tot, Int.le_trans H4.out.2.mass (p2_le (by omega)), H4.out.2.len⟩ (by omega) (by omega) (by omega)).mono ?_; rintro e w5 ⟨g5, d5, z5, rfl, H5⟩)
        | (go_at_call 83; refine (plus_nm (H1.out.2.kept H2.out.1) H2.out.2 (by omega) (by omega) (by omega)).mono ?_; rintro e w3 ⟨g3, d3, z3, rfl, H3⟩)
        | (go_at_call 78; refine (sign_any _ _ _ _ H5.out.1.lst).mono ?_; rintro e w6 ⟨rfl, rfl⟩))
    go_wp2_with fail
    go_ret
    refine ⟨?_, ((((HN.out.trans' H1.out.1).trans' H2.out.1).trans' H3.out.2.2).trans' H4.out.1).trans' H5.out.2.2⟩
    rw [H5.out.1.tot]; rfl

end Go.Proofs.Ytgeoffpcmkofkaa
