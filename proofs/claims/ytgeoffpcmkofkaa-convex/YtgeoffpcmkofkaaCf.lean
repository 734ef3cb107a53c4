/- Convex: within its corners. (Made by gen10.py.) -/
import Derived.Test.YtgeoffpcmkofkaaCe
namespace Go.Proofs.Ytgeoffpcmkofkaa
open Go Go.Conc Go.RowKit Fl Go.Maps Go.Lib Go.Joins
set_option maxRecDepth 100000
attribute [local go_sem ↓] Go.wp_at_zero Go.wp_at_succ

theorem within_is (ca : Option Addr) (ccap n : Nat) (R : Pts) (x : Pt) (wv : Int) (w : World) (hC : PolyAt w ca R) (hn : R.length = n) (he : errL R = 0) (hx : CdP x) (hw : withinN R x = wv) :
    Calls Try.prog 27 #[.slice ca n ccap, .agg #[.int .i64 x.1, .int .i64 x.2]] w fun e w' => e = .returned (.tuple #[.int .i64 wv, .int .i64 0]) ∧ Hid (New w w') := by
  have h := within_len ca ccap R x.1 x.2 w hC
  have e1 : wErr R (x.1, x.2) = 0 := by
    unfold wErr
    rw [if_pos he, okE]
    have : okB [(x.1, x.2)] = true := by simp [okB, cdB_iff.2 hx.1, cdB_iff.2 hx.2]
    rw [this]
    rfl
  have e2 : wNum R (x.1, x.2) = wv := by
    unfold wNum
    rw [if_pos e1, ← hw]
  rw [hn, e1, e2] at h
  exact h
def QN10 (rv : Value) (px py : Int) (bp : Nat) (la ha : Option Addr) (lcap hcap n m : Nat) (ca : Option Addr) (ccap bq : Nat) (b : Bool) (t10 t14 t15 t16 t17 t18 t24 t25 t26 t27 t28 t29 t30 t31 t32 t33 t34 t35 t36 t37 t38 t39 t40 t41 t42 t43 t44 t45 t46 t47 t48 t49 t50 t51 t52 t53 t54 t55 t56 t57 t58 t59 t60 t61 t62 t63 t64 t65 t66 t67 t68 t69 t70 t71 t72 t73 t74 t75 t76 t77 t78 t79 t80 t81 t82 t83 t84 t85 t86 t87 t88 t89 t90 t91 t92 t93 t94 t95 t96 t97 t98 t99 t100 t101 t102 t103 t104 t105 t106 t107 t108 t109 t110 t111 t112 t113 t114 t115 t116 t117 t118 t119 t120 t121 t122 t123 t124 t125 t126 t127 t128 t129 t130 t131 t132 t133 t134 t135 t136 t137 t138 t139 t140 t141 t142 t143 : Value) (F : World → Prop) (a : Act) (w : World) : Prop :=
  ∃ t4 t19 t20 t21 t144 t145 t146 t147 t148 t149 t150 t151 t152 t153 t154 t155 t156 t157 t158 t159 t160 t161 t162 t163 t164, a = { tmps := #[rv, .agg #[.int .i64 px, .int .i64 py], undef, .pointer (some ⟨bp, 0, none⟩), t4, .bool true, .slice la m lcap, .slice ha n hcap, .int .i64 0, .slice ca n ccap, t10, .int .i64 (n : Int), .pointer (some ⟨bq, 0, none⟩), .bool b, t14, t15, t16, t17, t18, t19, t20, t21, undef, undef, t24, t25, t26, t27, t28, t29, t30, t31, t32, t33, t34, t35, t36, t37, t38, t39, t40, t41, t42, t43, t44, t45, t46, t47, t48, t49, t50, t51, t52, t53, t54, t55, t56, t57, t58, t59, t60, t61, t62, t63, t64, t65, t66, t67, t68, t69, t70, t71, t72, t73, t74, t75, t76, t77, t78, t79, t80, t81, t82, t83, t84, t85, t86, t87, t88, t89, t90, t91, t92, t93, t94, t95, t96, t97, t98, t99, t100, t101, t102, t103, t104, t105, t106, t107, t108, t109, t110, t111, t112, t113, t114, t115, t116, t117, t118, t119, t120, t121, t122, t123, t124, t125, t126, t127, t128, t129, t130, t131, t132, t133, t134, t135, t136, t137, t138, t139, t140, t141, t142, t143, t144, t145, t146, t147, t148, t149, t150, t151, t152, t153, t154, t155, t156, t157, t158, t159, t160, t161, t162, t163, t164, undef, undef, undef, undef, undef, undef, undef, undef, undef, undef, undef, undef, undef, undef, undef, undef, undef, undef], defers := [] } ∧ F w
set_option maxHeartbeats 3200000 in
theorem loop10n (rv : Value) (px py : Int) (bp : Nat) (la ha : Option Addr) (lcap hcap n m : Nat) (ca : Option Addr) (ccap bq : Nat) (b : Bool) (out R : Pts) (w : World) (hl : PolyAt w la out) (hC : PolyAt w ca R) (hm : out.length = m) (hn : R.length = n) (h40 : m ≤ 40) (he : errL R = 0) (hcd : ∀ x ∈ out, CdP x) (hall : ∀ x ∈ out, 0 ≤ withinN R x) (F : World → Prop) (hF : ∀ w', New w w' → F w') (t4 t10 t14 t15 t16 t17 t18 t24 t25 t26 t27 t28 t29 t30 t31 t32 t33 t34 t35 t36 t37 t38 t39 t40 t41 t42 t43 t44 t45 t46 t47 t48 t49 t50 t51 t52 t53 t54 t55 t56 t57 t58 t59 t60 t61 t62 t63 t64 t65 t66 t67 t68 t69 t70 t71 t72 t73 t74 t75 t76 t77 t78 t79 t80 t81 t82 t83 t84 t85 t86 t87 t88 t89 t90 t91 t92 t93 t94 t95 t96 t97 t98 t99 t100 t101 t102 t103 t104 t105 t106 t107 t108 t109 t110 t111 t112 t113 t114 t115 t116 t117 t118 t119 t120 t121 t122 t123 t124 t125 t126 t127 t128 t129 t130 t131 t132 t133 t134 t135 t136 t137 t138 t139 t140 t141 t142 t143 : Value) :
    c10n.wp Try.prog (fun e a w' => e = .normal ∧ QN10 rv px py bp la ha lcap hcap n m ca ccap bq b t10 t14 t15 t16 t17 t18 t24 t25 t26 t27 t28 t29 t30 t31 t32 t33 t34 t35 t36 t37 t38 t39 t40 t41 t42 t43 t44 t45 t46 t47 t48 t49 t50 t51 t52 t53 t54 t55 t56 t57 t58 t59 t60 t61 t62 t63 t64 t65 t66 t67 t68 t69 t70 t71 t72 t73 t74 t75 t76 t77 t78 t79 t80 t81 t82 t83 t84 t85 t86 t87 t88 t89 t90 t91 t92 t93 t94 t95 t96 t97 t98 t99 t100 t101 t102 t103 t104 t105 t106 t107 t108 t109 t110 t111 t112 t113 t114 t115 t116 t117 t118 t119 t120 t121 t122 t123 t124 t125 t126 t127 t128 t129 t130 t131 t132 t133 t134 t135 t136 t137 t138 t139 t140 t141 t142 t143 F a w') { tmps := #[rv, .agg #[.int .i64 px, .int .i64 py], undef, .pointer (some ⟨bp, 0, none⟩), t4, .bool true, .slice la m lcap, .slice ha n hcap, .int .i64 0, .slice ca n ccap, t10, .int .i64 (n : Int), .pointer (some ⟨bq, 0, none⟩), .bool b, t14, t15, t16, t17, t18, undef, undef, undef, undef, undef, t24, t25, t26, t27, t28, t29, t30, t31, t32, t33, t34, t35, t36, t37, t38, t39, t40, t41, t42, t43, t44, t45, t46, t47, t48, t49, t50, t51, t52, t53, t54, t55, t56, t57, t58, t59, t60, t61, t62, t63, t64, t65, t66, t67, t68, t69, t70, t71, t72, t73, t74, t75, t76, t77, t78, t79, t80, t81, t82, t83, t84, t85, t86, t87, t88, t89, t90, t91, t92, t93, t94, t95, t96, t97, t98, t99, t100, t101, t102, t103, t104, t105, t106, t107, t108, t109, t110, t111, t112, t113, t114, t115, t116, t117, t118, t119, t120, t121, t122, t123, t124, t125, t126, t127, t128, t129, t130, t131, t132, t133, t134, t135, t136, t137, t138, t139, t140, t141, t142, t143, undef, undef, undef, undef, undef, undef, undef, undef, undef, undef, undef, undef, undef, undef, undef, undef, undef, undef, undef, undef, undef, undef, undef, undef, undef, undef, undef, undef, undef, undef, undef, undef, undef, undef, undef, undef, undef, undef, undef], defers := [] } w := by
  simp only [c10n, c10e, c10d, c10c, c10b, c10a, Try.f10]
  have HF : Hid (∀ w', New w w' → F w') := hF
  have HK : Hid (PolyAt w la out ∧ PolyAt w ca R ∧ out.length = m ∧ R.length = n ∧ errL R = 0 ∧ (∀ x ∈ out, CdP x) ∧ ∀ x ∈ out, 0 ≤ withinN R x) := ⟨hl, hC, hm, hn, he, hcd, hall⟩
  clear hF hl hC hm hn he hcd hall
  go_wp2_with fail
  go_loopw [19] (fun kv wr => ∃ j : Nat, kv = .int .i64 (j : Int) ∧ j ≤ m ∧ Hid (New w wr)) (fun kv _ => m - (intOf kv).toNat)
  case atStart => exact ⟨0, rfl, Nat.zero_le _, New.refl _⟩
  case round =>
    obtain ⟨j, rfl, hj, H⟩ := hrel
    rcases Nat.lt_or_ge j m with hj' | hj'
    · obtain ⟨x, hx⟩ : ∃ x, out[j]? = some x := ⟨_, List.getElem?_eq_getElem (by have := HK.out.2.2.1; omega)⟩
      obtain ⟨gl, offl, el, fl, gll⟩ := HK.out.1 (by have := HK.out.2.2.1; omega)
      have hxm := List.mem_of_getElem? hx
      have hjo : j < out.length := by have := HK.out.2.2.1; omega
      have l0 := (fl.kept gll H.out j hjo).1
      have l1 := (fl.kept gll H.out j hjo).2
      rw [show out[j] = x from (List.getElem?_eq_some_iff.1 hx).2] at l0 l1
      obtain ⟨wv, hwv⟩ : ∃ wv, withinN R x = wv := ⟨_, rfl⟩
      have h0 : ¬wv < 0 := by have := HK.out.2.2.2.2.2.2 x hxm; omega
      have h0d : decide (wv < 0) = false := decide_eq_false h0
      have HX : Hid (CdP x ∧ withinN R x = wv) := ⟨HK.out.2.2.2.2.2.1 x hxm, hwv⟩
      have d0 : (0 : Int) ≤ (j : Int) := by omega
      have d1 : (j : Int) < (m : Int) := by omega
      have wj : IntKind.i64.wrap ((j : Int) + 1) = (j : Int) + 1 := by rw [IntKind.wrap_i64]; omega
      clear hx fl hxm hjo hwv
      subst el
      go_wp2_with fail
      refine (within_is ca ccap n R x wv _ (HK.out.2.1.keptC H.out.keptB) HK.out.2.2.2.1 HK.out.2.2.2.2.1 HX.out.1 HX.out.2).mono ?_
      rintro e w2 ⟨rfl, H2⟩
      go_wp2_with fail
      go_roundw
      case rel => exact ⟨j + 1, by go_num, hj', H.out.trans' H2.out⟩
      case measure => simp [intOf]; omega
    · have e : j = m := by omega
      subst e
      go_wp2_with fail
      exact ⟨_, _, _, _, _, _, _, _, _, _, _, _, _, _, _, _, _, _, _, _, _, _, _, _, _, rfl, HF.out _ H.out⟩
set_option maxHeartbeats 3200000 in
theorem rest10 (rv : Value) (px py : Int) (bp : Nat) (la ha : Option Addr) (lcap hcap n m : Nat) (ca : Option Addr) (ccap bq : Nat) (qx qy : Int) (b : Bool) (R : Pts) (w : World) (hC : PolyAt w ca R) (hn : R.length = n) (he : errL R = 0) (hcq : CdP (qx, qy)) (q0 : w.cell? ⟨bq, 0, none⟩ = some (.int .i64 qx)) (q1 : w.cell? ⟨bq, 1, none⟩ = some (.int .i64 qy)) (hb : 3 ≤ n → decide (0 ≤ withinN R (qx, qy)) = b) (F : World → Prop) (hF : ∀ w', New w w' → F w') (t4 t10 t14 t15 t16 t17 t18 t19 t20 t21 t24 t25 t26 t27 t28 t29 t30 t31 t32 t33 t34 t35 t36 t37 t38 t39 t40 t41 t42 t43 t44 t45 t46 t47 t48 t49 t50 t51 t52 t53 t54 t55 t56 t57 t58 t59 t60 t61 t62 t63 t64 t65 t66 t67 t68 t69 t70 t71 t72 t73 t74 t75 t76 t77 t78 t79 t80 t81 t82 t83 t84 t85 t86 t87 t88 t89 t90 t91 t92 t93 t94 t95 t96 t97 t98 t99 t100 t101 t102 t103 t104 t105 t106 t107 t108 t109 t110 t111 t112 t113 t114 t115 t116 t117 t118 t119 t120 t121 t122 t123 t124 t125 t126 t127 t128 t129 t130 t131 t132 t133 t134 t135 t136 t137 t138 t139 t140 t141 t142 t143 t144 t145 t146 t147 t148 t149 t150 t151 t152 t153 t154 t155 t156 t157 t158 t159 t160 t161 t162 t163 t164 : Value) :
    c10r.wp Try.prog (fun e a w' => (e = .normal ∨ e = .ret) ∧ a.tmps.getD 4 undef = .bool true ∧ Hid (F w')) { tmps := #[rv, .agg #[.int .i64 px, .int .i64 py], undef, .pointer (some ⟨bp, 0, none⟩), t4, .bool true, .slice la m lcap, .slice ha n hcap, .int .i64 0, .slice ca n ccap, t10, .int .i64 (n : Int), .pointer (some ⟨bq, 0, none⟩), .bool b, t14, t15, t16, t17, t18, t19, t20, t21, undef, undef, t24, t25, t26, t27, t28, t29, t30, t31, t32, t33, t34, t35, t36, t37, t38, t39, t40, t41, t42, t43, t44, t45, t46, t47, t48, t49, t50, t51, t52, t53, t54, t55, t56, t57, t58, t59, t60, t61, t62, t63, t64, t65, t66, t67, t68, t69, t70, t71, t72, t73, t74, t75, t76, t77, t78, t79, t80, t81, t82, t83, t84, t85, t86, t87, t88, t89, t90, t91, t92, t93, t94, t95, t96, t97, t98, t99, t100, t101, t102, t103, t104, t105, t106, t107, t108, t109, t110, t111, t112, t113, t114, t115, t116, t117, t118, t119, t120, t121, t122, t123, t124, t125, t126, t127, t128, t129, t130, t131, t132, t133, t134, t135, t136, t137, t138, t139, t140, t141, t142, t143, t144, t145, t146, t147, t148, t149, t150, t151, t152, t153, t154, t155, t156, t157, t158, t159, t160, t161, t162, t163, t164, undef, undef, undef, undef, undef, undef, undef, undef, undef, undef, undef, undef, undef, undef, undef, undef, undef, undef], defers := [] } w := by
  simp only [c10r, c10e, c10d, c10c, c10b, c10a, Try.f10]
  have HK : Hid (PolyAt w ca R ∧ R.length = n ∧ errL R = 0 ∧ CdP (qx, qy)) := ⟨hC, hn, he, hcq⟩
  obtain ⟨wv, hwv⟩ : ∃ wv, withinN R (qx, qy) = wv := ⟨_, rfl⟩
  rw [hwv] at hb
  have HV : Hid (withinN R (qx, qy) = wv) := hwv
  clear hC hn he hcq hwv
  go_wp2_with fail
  refine (within_is ca ccap n R (qx, qy) wv _ HK.out.1 HK.out.2.1 HK.out.2.2.1 HK.out.2.2.2 HV.out).mono ?_
  rintro e w2 ⟨rfl, H2⟩
  have H3 : Hid (F w2) := hF w2 H2.out
  clear hF H2
  by_cases h3 : n < 3
  · have i1 : (n : Int) < 3 := by omega
    have i1d : decide ((n : Int) < 3) = true := decide_eq_true i1
    clear hb
    go_wp2_with fail
  · have i1 : ¬(n : Int) < 3 := by omega
    have i1d : decide ((n : Int) < 3) = false := decide_eq_false i1
    have hb' := hb (by omega)
    subst hb'
    have hbb : (decide (0 ≤ wv) == decide (0 ≤ wv)) = true := by simp
    clear hb
    go_wp2_with fail

end Go.Proofs.Ytgeoffpcmkofkaa
