/- Convex: its sides. (Made by gen10.py.) -/
import Derived.Test.YtgeoffpcmkofkaaCc
namespace Go.Proofs.Ytgeoffpcmkofkaa
open Go Go.Conc Go.RowKit Fl Go.Maps Go.Lib Go.Joins
set_option maxRecDepth 100000
attribute [local go_sem ↓] Go.wp_at_zero Go.wp_at_succ

/-- q lies left of the first k sides. -/
def leftB (R : Pts) (n : Nat) (q : Pt) (k : Nat) : Bool := decide (∀ i, i < k → 0 ≤ D (ptAt R i) (ptAt R ((i + 1) % n)) q)
theorem leftB_succ (R : Pts) (n : Nat) (q : Pt) (k : Nat) : leftB R n q (k + 1) = (leftB R n q k && decide (0 ≤ D (ptAt R k) (ptAt R ((k + 1) % n)) q)) := by
  unfold leftB
  rw [← Bool.decide_and]
  apply decide_eq_decide.2
  constructor
  · exact fun h => ⟨fun i hi => h i (by omega), h k (by omega)⟩
  · rintro ⟨h1, h2⟩ i hi
    by_cases e : i = k
    · rw [e]; exact h2
    · exact h1 i (by omega)
theorem okB3 {a b c : Pt} (ha : CdP a) (hb : CdP b) (hc : CdP c) : okB [(a.1, a.2), (b.1, b.2), (c.1, c.2)] = true := by
  simp [okB, cdB_iff.2 ha.1, cdB_iff.2 ha.2, cdB_iff.2 hb.1, cdB_iff.2 hb.2, cdB_iff.2 hc.1, cdB_iff.2 hc.2]
theorem kside_is (a b c : Pt) (s : Int) (w : World) (ha : CdP a) (hb : CdP b) (hc : CdP c) (hs : sgn (D a b c) = s) :
    Calls Try.prog 18 #[.agg #[.int .i64 a.1, .int .i64 a.2], .agg #[.int .i64 b.1, .int .i64 b.2], .agg #[.int .i64 c.1, .int .i64 c.2]] w fun e w' => e = .returned (.int .i64 s) ∧ Hid (New w w') := by
  rw [← hs]
  exact kside_any a.1 a.2 b.1 b.2 c.1 c.2 w (okB3 ha hb hc)
theorem behindN {w w' : World} {g off i : Nat} {x : Pt} (h : w.cell? ⟨g, off + i * 2, none⟩ = some (.int .i64 x.1) ∧ w.cell? ⟨g, off + i * 2 + 1, none⟩ = some (.int .i64 x.2)) (k : New w w') : w'.cell? ⟨g, off + i * 2, none⟩ = some (.int .i64 x.1) ∧ w'.cell? ⟨g, off + i * 2 + 1, none⟩ = some (.int .i64 x.2) := ⟨k.kept' h.1, k.kept' h.2⟩
def QM10 (rv : Value) (px py : Int) (bp : Nat) (la ha : Option Addr) (lcap hcap n m : Nat) (ca : Option Addr) (ccap bq : Nat) (t10 t24 t25 t26 t27 t28 t29 t30 t31 t32 t33 t34 t35 t36 t37 t38 t39 t40 t41 t42 t43 t44 t45 t46 t47 t48 t49 t50 t51 t52 t53 t54 t55 t56 t57 t58 t59 t60 t61 t62 t63 t64 t65 t66 t67 t68 t69 t70 t71 t72 t73 t74 t75 t76 t77 t78 t79 t80 t81 t82 t83 t84 t85 : Value) (F : Bool → World → Prop) (a : Act) (w : World) : Prop :=
  ∃ b t4 t14 t15 t16 t17 t18 t86 t87 t88 t89 t90 t91 t92 t93 t94 t95 t96 t97 t98 t99 t100 t101 t102 t103 t104 t105 t106 t107 t108 t109 t110 t111 t112 t113 t114 t115 t116 t117 t118 t119 t120 t121 t122 t123 t124 t125 t126 t127 t128 t129 t130 t131 t132 t133 t134 t135 t136 t137 t138 t139 t140 t141 t142 t143, a = { tmps := #[rv, .agg #[.int .i64 px, .int .i64 py], undef, .pointer (some ⟨bp, 0, none⟩), t4, .bool true, .slice la m lcap, .slice ha n hcap, .int .i64 0, .slice ca n ccap, t10, .int .i64 (n : Int), .pointer (some ⟨bq, 0, none⟩), .bool b, t14, t15, t16, t17, t18, undef, undef, undef, undef, undef, t24, t25, t26, t27, t28, t29, t30, t31, t32, t33, t34, t35, t36, t37, t38, t39, t40, t41, t42, t43, t44, t45, t46, t47, t48, t49, t50, t51, t52, t53, t54, t55, t56, t57, t58, t59, t60, t61, t62, t63, t64, t65, t66, t67, t68, t69, t70, t71, t72, t73, t74, t75, t76, t77, t78, t79, t80, t81, t82, t83, t84, t85, t86, t87, t88, t89, t90, t91, t92, t93, t94, t95, t96, t97, t98, t99, t100, t101, t102, t103, t104, t105, t106, t107, t108, t109, t110, t111, t112, t113, t114, t115, t116, t117, t118, t119, t120, t121, t122, t123, t124, t125, t126, t127, t128, t129, t130, t131, t132, t133, t134, t135, t136, t137, t138, t139, t140, t141, t142, t143, undef, undef, undef, undef, undef, undef, undef, undef, undef, undef, undef, undef, undef, undef, undef, undef, undef, undef, undef, undef, undef, undef, undef, undef, undef, undef, undef, undef, undef, undef, undef, undef, undef, undef, undef, undef, undef, undef, undef], defers := [] } ∧ F b w
set_option maxHeartbeats 6400000 in
theorem loop10m (rv : Value) (px py : Int) (bp : Nat) (la ha : Option Addr) (lcap hcap n m : Nat) (ca : Option Addr) (ccap bq : Nat) (qx qy : Int) (out R : Pts) (w : World) (hl : PolyAt w la out) (hC : PolyAt w ca R) (q0 : w.cell? ⟨bq, 0, none⟩ = some (.int .i64 qx)) (q1 : w.cell? ⟨bq, 1, none⟩ = some (.int .i64 qy)) (hm : out.length = m) (hn : R.length = n) (h40 : m ≤ 40) (hn40 : n ≤ 40)
    (hRS : RingSays out R) (hcd : ∀ x ∈ out, CdP x) (hcq : CdP (qx, qy)) (F : Bool → World → Prop) (hF : ∀ b w', New w w' → (3 ≤ n → b = leftB R n (qx, qy) n) → F b w') (t4 t10 t24 t25 t26 t27 t28 t29 t30 t31 t32 t33 t34 t35 t36 t37 t38 t39 t40 t41 t42 t43 t44 t45 t46 t47 t48 t49 t50 t51 t52 t53 t54 t55 t56 t57 t58 t59 t60 t61 t62 t63 t64 t65 t66 t67 t68 t69 t70 t71 t72 t73 t74 t75 t76 t77 t78 t79 t80 t81 t82 t83 t84 t85 : Value) :
    c10m.wp Try.prog (fun e a w' => e = .normal ∧ QM10 rv px py bp la ha lcap hcap n m ca ccap bq t10 t24 t25 t26 t27 t28 t29 t30 t31 t32 t33 t34 t35 t36 t37 t38 t39 t40 t41 t42 t43 t44 t45 t46 t47 t48 t49 t50 t51 t52 t53 t54 t55 t56 t57 t58 t59 t60 t61 t62 t63 t64 t65 t66 t67 t68 t69 t70 t71 t72 t73 t74 t75 t76 t77 t78 t79 t80 t81 t82 t83 t84 t85 F a w') { tmps := #[rv, .agg #[.int .i64 px, .int .i64 py], undef, .pointer (some ⟨bp, 0, none⟩), t4, .bool true, .slice la m lcap, .slice ha n hcap, .int .i64 0, .slice ca n ccap, t10, .int .i64 (n : Int), .pointer (some ⟨bq, 0, none⟩), .bool true, undef, undef, undef, undef, undef, undef, undef, undef, undef, undef, t24, t25, t26, t27, t28, t29, t30, t31, t32, t33, t34, t35, t36, t37, t38, t39, t40, t41, t42, t43, t44, t45, t46, t47, t48, t49, t50, t51, t52, t53, t54, t55, t56, t57, t58, t59, t60, t61, t62, t63, t64, t65, t66, t67, t68, t69, t70, t71, t72, t73, t74, t75, t76, t77, t78, t79, t80, t81, t82, t83, t84, t85, undef, undef, undef, undef, undef, undef, undef, undef, undef, undef, undef, undef, undef, undef, undef, undef, undef, undef, undef, undef, undef, undef, undef, undef, undef, undef, undef, undef, undef, undef, undef, undef, undef, undef, undef, undef, undef, undef, undef, undef, undef, undef, undef, undef, undef, undef, undef, undef, undef, undef, undef, undef, undef, undef, undef, undef, undef, undef, undef, undef, undef, undef, undef, undef, undef, undef, undef, undef, undef, undef, undef, undef, undef, undef, undef, undef, undef, undef, undef, undef, undef, undef, undef, undef, undef, undef, undef, undef, undef, undef, undef, undef, undef, undef, undef, undef, undef], defers := [] } w := by
  simp only [c10m, c10d, c10c, c10b, c10a, Try.f10]
  have HF : Hid (∀ b w', New w w' → (3 ≤ n → b = leftB R n (qx, qy) n) → F b w') := hF
  have HK : Hid (PolyAt w la out ∧ PolyAt w ca R ∧ w.cell? ⟨bq, 0, none⟩ = some (.int .i64 qx) ∧ w.cell? ⟨bq, 1, none⟩ = some (.int .i64 qy) ∧ out.length = m ∧ R.length = n) := ⟨hl, hC, q0, q1, hm, hn⟩
  have HR : Hid (RingSays out R ∧ (∀ x ∈ out, CdP x) ∧ CdP (qx, qy)) := ⟨hRS, hcd, hcq⟩
  have HPt : Hid (∀ i, i < n → ptAt R i ∈ R) := fun i hi => by rw [ptAt_eq (by omega)]; exact List.getElem_mem _
  clear hF hl hC q0 q1 hRS hcd hcq hm hn
  go_wp2_with fail
  go_loopw [13, 14] (fun lv iv wr => ∃ (k : Nat) (b : Bool), lv = .bool b ∧ iv = .int .i64 (k : Int) ∧ k ≤ n ∧ Hid (New w wr ∧ b = leftB R n (qx, qy) k)) (fun _ iv _ => n - (intOf iv).toNat)
  case atStart => exact ⟨0, true, rfl, rfl, Nat.zero_le _, New.refl _, (decide_eq_true fun i hi => by omega).symm⟩
  case round =>
    obtain ⟨k, b, rfl, rfl, hk, H⟩ := hrel
    rcases Nat.lt_or_ge k n with hk' | hk'
    · have i1 : (k : Int) < (n : Int) := by omega
      have i1d : decide ((k : Int) < (n : Int)) = true := decide_eq_true i1
      by_cases h3 : 2 < n
      · have i2 : (2 : Int) < (n : Int) := by omega
        have i2d : decide ((2 : Int) < (n : Int)) = true := decide_eq_true i2
        have n0 : n ≠ 0 := by omega
        obtain ⟨j1, hj1⟩ : ∃ j1, j1 = (k + 1) % n := ⟨_, rfl⟩
        obtain ⟨j2, hj2⟩ : ∃ j2, j2 = (k + 2) % n := ⟨_, rfl⟩
        have hj1l : j1 < n := by rw [hj1]; exact Nat.mod_lt _ (by omega)
        have hj2l : j2 < n := by rw [hj2]; exact Nat.mod_lt _ (by omega)
        obtain ⟨gc, offc, ec, fc, gcl⟩ := HK.out.2.1 (by have := HK.out.2.2.2.2.2; omega)
        obtain ⟨u, hu⟩ : ∃ u, u = ptAt R k := ⟨_, rfl⟩
        obtain ⟨v, hv⟩ : ∃ v, v = ptAt R j1 := ⟨_, rfl⟩
        obtain ⟨z, hz⟩ : ∃ z, z = ptAt R j2 := ⟨_, rfl⟩
        have HU : Hid (u = ptAt R k ∧ v = ptAt R ((k + 1) % n) ∧ CdP u ∧ CdP v ∧ CdP z ∧ sgn (D u v z) = 1 ∧ ∀ x ∈ out, 0 ≤ D u v x) := by
          have e := HK.out.2.2.2.2.2
          have c := fun i hi => HR.out.2.1 _ (HR.out.1.sub _ (HPt.out i hi))
          refine ⟨hu, by rw [hv, hj1], by rw [hu]; exact c k hk', by rw [hv]; exact c j1 hj1l, by rw [hz]; exact c j2 hj2l, ?_, fun x hx => ?_⟩
          · have := HR.out.1.turns (by omega) k (by omega)
            rw [e, ← hj1, ← hj2, ← hu, ← hv, ← hz] at this
            have := sgn_pos.2 this
            rcases sgn_cases (D u v z) with h | h | h <;> omega
          · have := HR.out.1.left (by omega) k (by omega) x hx
            rwa [e, ← hj1, ← hu, ← hv] at this
        have HCc : Hid (∀ V, New wr V → ∀ i, i < n → V.cell? ⟨gc, offc + i * 2, none⟩ = some (.int .i64 (ptAt R i).1) ∧ V.cell? ⟨gc, offc + i * 2 + 1, none⟩ = some (.int .i64 (ptAt R i).2)) := fun V hV i hi => by
          have hi' : i < R.length := by have := HK.out.2.2.2.2.2; omega
          have := fc.kept gcl (H.out.1.trans' hV) i hi'
          rwa [← ptAt_eq hi'] at this
        have u01 := HCc.out wr (New.refl _) k hk'
        rw [← hu] at u01
        obtain ⟨u0, u1⟩ := u01
        have v01 := HCc.out (wr.alloc (.cells #[.int .i64 u.1, .int .i64 u.2] 23)) (New.alloc _ _) j1 hj1l
        rw [← hv] at v01
        obtain ⟨v0, v1⟩ := v01
        have HZ : Hid (∀ V, New wr V → V.cell? ⟨gc, offc + j2 * 2, none⟩ = some (.int .i64 z.1) ∧ V.cell? ⟨gc, offc + j2 * 2 + 1, none⟩ = some (.int .i64 z.2)) := fun V hV => by rw [hz]; exact HCc.out V hV j2 hj2l
        have r1 : ((k : Int) + 1).tmod (n : Int) = (j1 : Int) := by rw [hj1, Int.tmod_eq_emod_of_nonneg (by omega)]; rfl
        have r2 : ((k : Int) + 2).tmod (n : Int) = (j2 : Int) := by rw [hj2, Int.tmod_eq_emod_of_nonneg (by omega)]; rfl
        have w1 : IntKind.i64.wrap ((k : Int) + 1) = (k : Int) + 1 := by rw [IntKind.wrap_i64]; omega
        have w2 : IntKind.i64.wrap ((k : Int) + 2) = (k : Int) + 2 := by rw [IntKind.wrap_i64]; omega
        have w3 : IntKind.i64.wrap (j1 : Int) = (j1 : Int) := by rw [IntKind.wrap_i64]; omega
        have w4 : IntKind.i64.wrap (j2 : Int) = (j2 : Int) := by rw [IntKind.wrap_i64]; omega
        have k0 : (0 : Int) ≤ (k : Int) := by omega
        have a0 : (0 : Int) ≤ (j1 : Int) := by omega
        have a1 : (j1 : Int) < (n : Int) := by omega
        have b0 : (0 : Int) ≤ (j2 : Int) := by omega
        have b1 : (j2 : Int) < (n : Int) := by omega
        clear hu hv hz hj1 hj2 fc
        subst ec
        obtain ⟨wo, rfl⟩ : ∃ wo, wo = wr := ⟨_, rfl⟩
        have HA : Hid (New wo ((wo.alloc (.cells #[.int .i64 u.1, .int .i64 u.2] 23)).alloc (.cells #[.int .i64 v.1, .int .i64 v.2] 23))) := (New.alloc _ _).alloc' _
        have HUV : Hid (∀ V, New ((wo.alloc (.cells #[.int .i64 u.1, .int .i64 u.2] 23)).alloc (.cells #[.int .i64 v.1, .int .i64 v.2] 23)) V → V.cell? ⟨wo.heap.size, 0, none⟩ = some (.int .i64 u.1) ∧ V.cell? ⟨wo.heap.size, 1, none⟩ = some (.int .i64 u.2) ∧ V.cell? ⟨wo.heap.size + 1, 0, none⟩ = some (.int .i64 v.1) ∧ V.cell? ⟨wo.heap.size + 1, 1, none⟩ = some (.int .i64 v.2)) := fun V hV =>
          ⟨hV.kept' (by go_simp), hV.kept' (by go_simp), hV.kept' (by go_simp), hV.kept' (by go_simp)⟩
        go_wp2_with fail
        obtain ⟨wA, hA⟩ : ∃ wA, wA = ((wo.alloc (.cells #[.int .i64 u.1, .int .i64 u.2] 23)).alloc (.cells #[.int .i64 v.1, .int .i64 v.2] 23)) := ⟨_, rfl⟩
        rw [← hA] at HA HUV ⊢
        clear hA u0 u1 v0 v1
        have HW : Hid (New wA wA.drew) := (New.refl _).dr
        go_region_held3 (fun V => V.cell? ⟨wo.heap.size, 0, none⟩ = some (.int .i64 u.1) ∧ V.cell? ⟨wo.heap.size, 1, none⟩ = some (.int .i64 u.2) ∧ V.cell? ⟨wo.heap.size + 1, 0, none⟩ = some (.int .i64 v.1) ∧ V.cell? ⟨wo.heap.size + 1, 1, none⟩ = some (.int .i64 v.2) ∧ V.cell? ⟨gc, offc + j2 * 2, none⟩ = some (.int .i64 z.1) ∧ V.cell? ⟨gc, offc + j2 * 2 + 1, none⟩ = some (.int .i64 z.2))
          (first | (have t := HUV.out _ HW.out; have t2 := HZ.out _ (HA.out.trans' HW.out); exact ⟨t.1, t.2.1, t.2.2.1, t.2.2.2, t2.1, t2.2⟩))
          (first | (go_at_call 18; refine (kside_is u v z 1 _ HU.out.2.2.1 HU.out.2.2.2.1 HU.out.2.2.2.2.1 HU.out.2.2.2.2.2.1).mono ?_; rintro e w3 ⟨rfl, H3⟩; replace HW : Hid (New wA w3) := HW.out.trans' H3.out; clear H3))
        go_wp2_with fail
        go_loopw [17] (fun kv w4 => ∃ j : Nat, kv = .int .i64 (j : Int) ∧ j ≤ m ∧ Hid (New wA w4)) (fun kv _ => m - (intOf kv).toNat)
        case atStart => exact ⟨0, rfl, Nat.zero_le _, HW⟩
        case round =>
          obtain ⟨j, rfl, hj, H4⟩ := hrel
          rcases Nat.lt_or_ge j m with hj' | hj'
          · obtain ⟨x, hx⟩ : ∃ x, out[j]? = some x := ⟨_, List.getElem?_eq_getElem (by have := HK.out.2.2.2.2.1; omega)⟩
            obtain ⟨gl, offl, el, fl, gll⟩ := HK.out.1 (by have := HK.out.2.2.2.2.1; omega)
            have HL : Hid (∀ V, New wA V → V.cell? ⟨gl, offl + j * 2, none⟩ = some (.int .i64 x.1) ∧ V.cell? ⟨gl, offl + j * 2 + 1, none⟩ = some (.int .i64 x.2)) := fun V hV => by
              have hjo : j < out.length := by have := HK.out.2.2.2.2.1; omega
              have := fl.kept gll ((H.out.1.trans' HA.out).trans' hV) j hjo
              rwa [show out[j] = x from (List.getElem?_eq_some_iff.1 hx).2] at this
            have hxm := List.mem_of_getElem? hx
            obtain ⟨s, hs, h01⟩ : ∃ s, sgn (D u v x) = s ∧ (s = 0 ∨ s = 1) := by
              have := HU.out.2.2.2.2.2.2 x hxm
              rcases sgn_cases (D u v x) with h | h | h
              · omega
              · exact ⟨_, rfl, .inl h.2⟩
              · exact ⟨_, rfl, .inr h.2⟩
            have HX : Hid (CdP x ∧ sgn (D u v x) = s) := ⟨HR.out.2.1 x hxm, hs⟩
            clear hx fl hxm hs
            subst el
            have d0 : (0 : Int) ≤ (j : Int) := by omega
            have d1 : (j : Int) < (m : Int) := by omega
            have wj : IntKind.i64.wrap ((j : Int) + 1) = (j : Int) + 1 := by rw [IntKind.wrap_i64]; omega
            have HY : Hid (New wA wr.drew) := H4.out.dr
            go_wp2_with fail
            go_region_held3 (fun V => V.cell? ⟨wo.heap.size, 0, none⟩ = some (.int .i64 u.1) ∧ V.cell? ⟨wo.heap.size, 1, none⟩ = some (.int .i64 u.2) ∧ V.cell? ⟨wo.heap.size + 1, 0, none⟩ = some (.int .i64 v.1) ∧ V.cell? ⟨wo.heap.size + 1, 1, none⟩ = some (.int .i64 v.2) ∧ V.cell? ⟨gl, offl + j * 2, none⟩ = some (.int .i64 x.1) ∧ V.cell? ⟨gl, offl + j * 2 + 1, none⟩ = some (.int .i64 x.2))
              (first | (have t := HUV.out _ HY.out; have t2 := HL.out _ HY.out; exact ⟨t.1, t.2.1, t.2.2.1, t.2.2.2, t2.1, t2.2⟩))
              (first | (go_at_call 18; refine (kside_is u v x s _ HU.out.2.2.1 HU.out.2.2.2.1 HX.out.1 HX.out.2).mono ?_; rintro e w3 ⟨rfl, H3⟩; replace HY : Hid (New wA w3) := HY.out.trans' H3.out; clear H3))
            rcases h01 with rfl | rfl
            · go_wp2_with fail
              go_roundw
              case rel => exact ⟨j + 1, by go_num, hj', HY⟩
              case measure => simp [intOf]; omega
            · go_wp2_with fail
              go_roundw
              case rel => exact ⟨j + 1, by go_num, hj', HY⟩
              case measure => simp [intOf]; omega
          · have e : j = m := by omega
            subst e
            have HS2 : Hid (leftB R n (qx, qy) (k + 1) = (b && decide (0 ≤ D u v (qx, qy)))) := by
              rw [Hid, leftB_succ, ← H.out.2, ← HU.out.1, ← HU.out.2.1]
            cases b with
            | false =>
              go_wp2_with fail
              go_roundw
              case rel => exact ⟨k + 1, false, rfl, by go_num, hk', (H.out.1.trans' HA.out).trans' H4.out, by rw [HS2.out]; rfl⟩
              case measure => simp [intOf]; omega
            | true =>
              obtain ⟨e0, e1, e2, e3⟩ := HUV.out _ H4.out
              have e4 := ((H.out.1.trans' HA.out).trans' H4.out).kept' HK.out.2.2.1
              have e5 := ((H.out.1.trans' HA.out).trans' H4.out).kept' HK.out.2.2.2.1
              obtain ⟨s, hs⟩ : ∃ s, sgn (D u v (qx, qy)) = s := ⟨_, rfl⟩
              have HQ : Hid (sgn (D u v (qx, qy)) = s ∧ leftB R n (qx, qy) (k + 1) = decide (0 ≤ s)) := by
                refine ⟨hs, ?_⟩
                rw [HS2.out, Bool.true_and]
                apply decide_eq_decide.2
                rcases sgn_cases (D u v (qx, qy)) with h | h | h <;> omega
              clear hs
              go_wp2_with fail
              refine (kside_is u v (qx, qy) s _ HU.out.2.2.1 HU.out.2.2.2.1 HR.out.2.2 HQ.out.1).mono ?_
              rintro e w5 ⟨rfl, H5⟩
              clear e0 e1 e2 e3 e4 e5
              go_wp2_with fail
              go_roundw
              case rel => exact ⟨k + 1, decide (0 ≤ s), rfl, by go_num, hk', ((H.out.1.trans' HA.out).trans' H4.out).trans' H5.out, by rw [HQ.out.2]⟩
              case measure => simp [intOf]; omega
      · have i2 : ¬(2 : Int) < (n : Int) := by omega
        have i2d : decide ((2 : Int) < (n : Int)) = false := decide_eq_false i2
        go_wp2_with fail
        exact ⟨_, _, _, _, _, _, _, _, _, _, _, _, _, _, _, _, _, _, _, _, _, _, _, _, _, _, _, _, _, _, _, _, _, _, _, _, _, _, _, _, _, _, _, _, _, _, _, _, _, _, _, _, _, _, _, _, _, _, _, _, _, _, _, _, _, rfl, HF.out _ _ H.out.1 (fun h => by omega)⟩
    · have e : k = n := by omega
      subst e
      go_wp2_with fail
      exact ⟨_, _, _, _, _, _, _, _, _, _, _, _, _, _, _, _, _, _, _, _, _, _, _, _, _, _, _, _, _, _, _, _, _, _, _, _, _, _, _, _, _, _, _, _, _, _, _, _, _, _, _, _, _, _, _, _, _, _, _, _, _, _, _, _, _, rfl, HF.out _ _ H.out.1 (fun _ => H.out.2)⟩

end Go.Proofs.Ytgeoffpcmkofkaa
