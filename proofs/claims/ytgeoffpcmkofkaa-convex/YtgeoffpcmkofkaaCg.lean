/- Convex, from its start to its end. (Made by gen10.py.) -/
import Derived.Test.YtgeoffpcmkofkaaCf
namespace Go.Proofs.Ytgeoffpcmkofkaa
open Go Go.Conc Go.RowKit Fl Go.Maps Go.Lib Go.Joins
set_option maxRecDepth 100000

theorem A.leave10 {Post : Value → World → Prop} {a : Act} {todo : List Item} {w : World} (hd : a.defers = []) (h2 : a.tmps.getD 4 undef = .bool true) (h : ∀ w', Same w w' → Post (.bool true) w') : A Try.prog Post { (base 10).at a todo with mode := .returning } [] w := by
  refine A.fin (v := .bool true) fun w' hs => ⟨?_, h w' hs⟩
  have hf : Try.prog.funcs[10]? = some Try.f10 := Try.func10
  have hr : (results Try.f10 a.tmps).run Try.prog w' = .ok (.bool true) w' := by simp [results, Try.f10, ← h2]
  have he : (results Try.f10 a.tmps).events Try.prog w' #[] = #[] := by simp [results, Try.f10]
  simp [Conc.G, stepG, unwind, doReturn, Frame.at, show (base 10).kind = .normal from rfl, show (base 10).fn = 10 from rfl, hd, hf, hr, he, seen, GStep.after]
noncomputable def c10g : Code := match c10b with
  | .seq r _ => r
  | _ => .skip
noncomputable def c10u : Code := match c10c with
  | .seq r _ => r
  | _ => .skip
noncomputable def c10v : Code := match c10d with
  | .seq r _ => r
  | _ => .skip
theorem c10a_eq : c10a = .seq c10p c10b := rfl
theorem c10b_eq : c10b = .seq c10g (.seq c10l c10c) := rfl
theorem c10c_eq : c10c = .seq c10u (.seq c10q c10d) := rfl
theorem c10d_eq : c10d = .seq c10v (.seq c10m c10e) := rfl
theorem c10e_eq : c10e = .seq c10n c10r := rfl
theorem fs16 : FSof fsI 16 := by decide
theorem fs17 : FSof fsI 17 := by decide
theorem Same.kept {w w' : World} (h : Same w w') : Kept w w' := (Kept.refl w).same h
theorem own_poly {w : World} {base n : Nat} {v : Value} {l : Pts} (h : w.ownsRow base 23 2 v n (flatP l)) (hn : l.length = n) : ∃ ao cap, v = .slice ao n cap ∧ PolyAt w ao l := by
  subst hn
  rcases h.2 with ⟨e, h0⟩ | ⟨g, cap, cur, e, hb, hg, h1, h2, h3, h4⟩
  · exact ⟨none, 0, by rw [e, h0], fun h => by omega⟩
  · refine ⟨_, cap, e, fun _ => ⟨g, 0, rfl, fun i hi => ?_, (Array.getElem?_eq_some_iff.1 hg).1⟩⟩
    subst e
    have := flatP_get l i hi
    rw [Nat.zero_add]
    exact ⟨(World.ownsRow.cellAt h (i * 2) (by omega)).trans this.1, (World.ownsRow.cellAt h (i * 2 + 1) (by omega)).trans this.2⟩
theorem own_rowL {w : World} {base : Nat} {v : Value} {l : Pts} (h : w.ownsRow base 23 2 v l.length (flatP l)) (hi : AllRow IntCell w v) (hG : GN ≤ base) : RowL w v l := by
  rcases h.2 with ⟨e, h0⟩ | ⟨g, cap, cur, e, hb, hg, h1, h2, h3, h4⟩
  · exact .inl ⟨e, List.eq_nil_of_length_eq_zero h0⟩
  · exact .inr ⟨g, cap, cur, e, h1, hg, hi g (by rw [e]; rfl) cur 23 (0, 0) hg, by omega, PtsIn.row h4⟩
theorem own_nums {w : World} {base : Nat} {v : Value} {xs : List Nat} {ys : List Value} (h : w.ownsRow base 3 1 v ys.length ys) (hy : ys = xs.map fun (n : Nat) => Value.int .i64 (n : Int)) : ∃ ao cap, v = .slice ao xs.length cap ∧ NumsR w ao xs := by
  subst hy
  rw [List.length_map] at h
  rcases ownsRow_forms h with ⟨e, h0⟩ | ⟨g, cap, e⟩
  · exact ⟨none, 0, by rw [e, h0], fun h => by omega⟩
  · refine ⟨_, cap, e, fun _ => ⟨g, rfl, fun i x hx => ?_⟩⟩
    subst e
    have hi := (List.getElem?_eq_some_iff.1 hx).1
    refine (World.ownsRow.cellAt h i (by omega)).trans ?_
    rw [List.getElem?_map, hx]
    rfl

set_option maxHeartbeats 4000000 in
theorem A.cvxE {Post : Value → World → Prop} {W : World} (rv : Value) (px py : Int) (bp : Nat) (la ha : Option Addr) (lcap hcap n m : Nat) (ca : Option Addr) (ccap bq : Nat) (qx qy : Int) (b : Bool) (out R : Pts) (w : World) (hk : Kept W w) (hl : PolyAt w la out) (hC : PolyAt w ca R) (hcq : CdP (qx, qy)) (q0 : w.cell? ⟨bq, 0, none⟩ = some (.int .i64 qx)) (q1 : w.cell? ⟨bq, 1, none⟩ = some (.int .i64 qy)) (hb : 3 ≤ n → b = leftB R n (qx, qy) n) (hm : out.length = m) (hn : R.length = n) (h40 : m ≤ 40) (heR : errL R = 0) (hR : RingSays out R) (hcd : ∀ x ∈ out, CdP x) (h : ∀ w', Kept W w' → Post (.bool true) w') (t4 t10 t14 t15 t16 t17 t18 t24 t25 t26 t27 t28 t29 t30 t31 t32 t33 t34 t35 t36 t37 t38 t39 t40 t41 t42 t43 t44 t45 t46 t47 t48 t49 t50 t51 t52 t53 t54 t55 t56 t57 t58 t59 t60 t61 t62 t63 t64 t65 t66 t67 t68 t69 t70 t71 t72 t73 t74 t75 t76 t77 t78 t79 t80 t81 t82 t83 t84 t85 t86 t87 t88 t89 t90 t91 t92 t93 t94 t95 t96 t97 t98 t99 t100 t101 t102 t103 t104 t105 t106 t107 t108 t109 t110 t111 t112 t113 t114 t115 t116 t117 t118 t119 t120 t121 t122 t123 t124 t125 t126 t127 t128 t129 t130 t131 t132 t133 t134 t135 t136 t137 t138 t139 t140 t141 t142 t143 : Value) :
    A Try.prog Post ((base 10).at { tmps := #[rv, .agg #[.int .i64 px, .int .i64 py], undef, .pointer (some ⟨bp, 0, none⟩), t4, .bool true, .slice la m lcap, .slice ha n hcap, .int .i64 0, .slice ca n ccap, t10, .int .i64 (n : Int), .pointer (some ⟨bq, 0, none⟩), .bool b, t14, t15, t16, t17, t18, undef, undef, undef, undef, undef, t24, t25, t26, t27, t28, t29, t30, t31, t32, t33, t34, t35, t36, t37, t38, t39, t40, t41, t42, t43, t44, t45, t46, t47, t48, t49, t50, t51, t52, t53, t54, t55, t56, t57, t58, t59, t60, t61, t62, t63, t64, t65, t66, t67, t68, t69, t70, t71, t72, t73, t74, t75, t76, t77, t78, t79, t80, t81, t82, t83, t84, t85, t86, t87, t88, t89, t90, t91, t92, t93, t94, t95, t96, t97, t98, t99, t100, t101, t102, t103, t104, t105, t106, t107, t108, t109, t110, t111, t112, t113, t114, t115, t116, t117, t118, t119, t120, t121, t122, t123, t124, t125, t126, t127, t128, t129, t130, t131, t132, t133, t134, t135, t136, t137, t138, t139, t140, t141, t142, t143, undef, undef, undef, undef, undef, undef, undef, undef, undef, undef, undef, undef, undef, undef, undef, undef, undef, undef, undef, undef, undef, undef, undef, undef, undef, undef, undef, undef, undef, undef, undef, undef, undef, undef, undef, undef, undef, undef, undef], defers := [] } [.code c10e]) [] w := by
  rw [c10e_eq]
  refine .ctl (fun _ => stepG_seq) ?_
  refine A.seg bodP noEarly (fn := Try.f10) Try.func10 rfl (c := c10n) codeP10n (k := [.code c10r]) rfl (Q := QN10 rv px py bp la ha lcap hcap n m ca ccap bq b t10 t14 t15 t16 t17 t18 t24 t25 t26 t27 t28 t29 t30 t31 t32 t33 t34 t35 t36 t37 t38 t39 t40 t41 t42 t43 t44 t45 t46 t47 t48 t49 t50 t51 t52 t53 t54 t55 t56 t57 t58 t59 t60 t61 t62 t63 t64 t65 t66 t67 t68 t69 t70 t71 t72 t73 t74 t75 t76 t77 t78 t79 t80 t81 t82 t83 t84 t85 t86 t87 t88 t89 t90 t91 t92 t93 t94 t95 t96 t97 t98 t99 t100 t101 t102 t103 t104 t105 t106 t107 t108 t109 t110 t111 t112 t113 t114 t115 t116 t117 t118 t119 t120 t121 t122 t123 t124 t125 t126 t127 t128 t129 t130 t131 t132 t133 t134 t135 t136 t137 t138 t139 t140 t141 t142 t143 fun w' => Kept w w') ?_ (fun w' hs => loop10n rv px py bp la ha lcap hcap n m ca ccap bq b out R w' (hl.keptC hs.kept) (hC.keptC hs.kept) hm hn h40 heR hcd hR.all _ (fun w5 h1 => h1.kept0 hs) t4 t10 t14 t15 t16 t17 t18 t24 t25 t26 t27 t28 t29 t30 t31 t32 t33 t34 t35 t36 t37 t38 t39 t40 t41 t42 t43 t44 t45 t46 t47 t48 t49 t50 t51 t52 t53 t54 t55 t56 t57 t58 t59 t60 t61 t62 t63 t64 t65 t66 t67 t68 t69 t70 t71 t72 t73 t74 t75 t76 t77 t78 t79 t80 t81 t82 t83 t84 t85 t86 t87 t88 t89 t90 t91 t92 t93 t94 t95 t96 t97 t98 t99 t100 t101 t102 t103 t104 t105 t106 t107 t108 t109 t110 t111 t112 t113 t114 t115 t116 t117 t118 t119 t120 t121 t122 t123 t124 t125 t126 t127 t128 t129 t130 t131 t132 t133 t134 t135 t136 t137 t138 t139 t140 t141 t142 t143) ?_
  · rintro a w1 w2 hs ⟨t4, t19, t20, t21, t144, t145, t146, t147, t148, t149, t150, t151, t152, t153, t154, t155, t156, t157, t158, t159, t160, t161, t162, t163, t164, rfl, h1⟩
    exact ⟨t4, t19, t20, t21, t144, t145, t146, t147, t148, t149, t150, t151, t152, t153, t154, t155, t156, t157, t158, t159, t160, t161, t162, t163, t164, rfl, h1.same hs⟩
  rintro a w5 ⟨t4, t19, t20, t21, t144, t145, t146, t147, t148, t149, t150, t151, t152, t153, t154, t155, t156, t157, t158, t159, t160, t161, t162, t163, t164, rfl, k5⟩
  have hbb : 3 ≤ n → decide (0 ≤ withinN R (qx, qy)) = b := fun h3 => by
    rw [hb h3]
    unfold leftB
    apply decide_eq_decide.2
    have := hR.iff (by omega) (qx, qy) hcq
    rw [hn] at this
    exact this
  exact A.rest bodP noEarly (fn := Try.f10) Try.func10 rfl (c := c10r) codeP10r rfl (Q := fun a w' => a.tmps.getD 4 undef = .bool true ∧ Hid (Kept W w')) (fun a w1 w2 hs q => ⟨q.1, q.2.out.same hs⟩) (fun w' hs => rest10 rv px py bp la ha lcap hcap n m ca ccap bq qx qy b R w' (hC.keptC (k5.same hs)) hn heR hcq ((k5.same hs).cell q0) ((k5.same hs).cell q1) hbb _ (fun w6 h6 => (hk.trans (k5.same hs)).trans h6.keptB) t4 t10 t14 t15 t16 t17 t18 t19 t20 t21 t24 t25 t26 t27 t28 t29 t30 t31 t32 t33 t34 t35 t36 t37 t38 t39 t40 t41 t42 t43 t44 t45 t46 t47 t48 t49 t50 t51 t52 t53 t54 t55 t56 t57 t58 t59 t60 t61 t62 t63 t64 t65 t66 t67 t68 t69 t70 t71 t72 t73 t74 t75 t76 t77 t78 t79 t80 t81 t82 t83 t84 t85 t86 t87 t88 t89 t90 t91 t92 t93 t94 t95 t96 t97 t98 t99 t100 t101 t102 t103 t104 t105 t106 t107 t108 t109 t110 t111 t112 t113 t114 t115 t116 t117 t118 t119 t120 t121 t122 t123 t124 t125 t126 t127 t128 t129 t130 t131 t132 t133 t134 t135 t136 t137 t138 t139 t140 t141 t142 t143 t144 t145 t146 t147 t148 t149 t150 t151 t152 t153 t154 t155 t156 t157 t158 t159 t160 t161 t162 t163 t164) (fun a w' todo hd hq => A.leave10 hd hq.1 fun w2 hs => h w2 (hq.2.out.same hs))

set_option maxHeartbeats 4000000 in
theorem A.cvxD {Post : Value → World → Prop} {W : World} (rv : Value) (px py : Int) (bp : Nat) (la ha : Option Addr) (lcap hcap n m : Nat) (ca : Option Addr) (ccap bq : Nat) (qx qy : Int) (out R : Pts) (w : World) (hk : Kept W w) (hl : PolyAt w la out) (hC : PolyAt w ca R) (hcq : CdP (qx, qy)) (q0 : w.cell? ⟨bq, 0, none⟩ = some (.int .i64 qx)) (q1 : w.cell? ⟨bq, 1, none⟩ = some (.int .i64 qy)) (hm : out.length = m) (hn : R.length = n) (h40 : m ≤ 40) (hn40 : n ≤ 40) (heR : errL R = 0) (hR : RingSays out R) (hcd : ∀ x ∈ out, CdP x) (h : ∀ w', Kept W w' → Post (.bool true) w') (t4 t10 t24 t25 t26 t27 t28 t29 t30 t31 t32 t33 t34 t35 t36 t37 t38 t39 t40 t41 t42 t43 t44 t45 t46 t47 t48 t49 t50 t51 t52 t53 t54 t55 t56 t57 t58 t59 t60 t61 t62 t63 t64 t65 t66 t67 t68 t69 t70 t71 t72 t73 t74 t75 t76 t77 t78 t79 t80 t81 t82 t83 t84 t85 : Value) :
    A Try.prog Post ((base 10).at { tmps := #[rv, .agg #[.int .i64 px, .int .i64 py], undef, .pointer (some ⟨bp, 0, none⟩), t4, .bool true, .slice la m lcap, .slice ha n hcap, .int .i64 0, .slice ca n ccap, t10, .int .i64 (n : Int), .pointer (some ⟨bq, 0, none⟩), undef, undef, undef, undef, undef, undef, undef, undef, undef, undef, undef, t24, t25, t26, t27, t28, t29, t30, t31, t32, t33, t34, t35, t36, t37, t38, t39, t40, t41, t42, t43, t44, t45, t46, t47, t48, t49, t50, t51, t52, t53, t54, t55, t56, t57, t58, t59, t60, t61, t62, t63, t64, t65, t66, t67, t68, t69, t70, t71, t72, t73, t74, t75, t76, t77, t78, t79, t80, t81, t82, t83, t84, t85, undef, undef, undef, undef, undef, undef, undef, undef, undef, undef, undef, undef, undef, undef, undef, undef, undef, undef, undef, undef, undef, undef, undef, undef, undef, undef, undef, undef, undef, undef, undef, undef, undef, undef, undef, undef, undef, undef, undef, undef, undef, undef, undef, undef, undef, undef, undef, undef, undef, undef, undef, undef, undef, undef, undef, undef, undef, undef, undef, undef, undef, undef, undef, undef, undef, undef, undef, undef, undef, undef, undef, undef, undef, undef, undef, undef, undef, undef, undef, undef, undef, undef, undef, undef, undef, undef, undef, undef, undef, undef, undef, undef, undef, undef, undef, undef, undef], defers := [] } [.code c10d]) [] w := by
  rw [c10d_eq]
  refine .ctl (fun _ => stepG_seq) ?_
  simp only [c10v, c10d, c10c, c10b, c10a, Try.f10]
  refine .ctl (fun _ => stepG_region) ?_
  walk_nrm
  refine .mov (.bool true) rfl rfl (.inr rfl) rfl (by decide) ?_
  walk_nrm
  refine .ctl (fun _ => stepG_region_end) ?_
  refine .ctl (fun _ => stepG_seq) ?_
  refine A.seg bodP noEarly (fn := Try.f10) Try.func10 rfl (c := c10m) codeP10m (k := [.code c10e]) rfl (Q := QM10 rv px py bp la ha lcap hcap n m ca ccap bq t10 t24 t25 t26 t27 t28 t29 t30 t31 t32 t33 t34 t35 t36 t37 t38 t39 t40 t41 t42 t43 t44 t45 t46 t47 t48 t49 t50 t51 t52 t53 t54 t55 t56 t57 t58 t59 t60 t61 t62 t63 t64 t65 t66 t67 t68 t69 t70 t71 t72 t73 t74 t75 t76 t77 t78 t79 t80 t81 t82 t83 t84 t85 fun b w' => (3 ≤ n → b = leftB R n (qx, qy) n) ∧ Kept w w') ?_ (fun w' hs => loop10m rv px py bp la ha lcap hcap n m ca ccap bq qx qy out R w' (hl.keptC hs.kept) (hC.keptC hs.kept) (hs.kept.cell q0) (hs.kept.cell q1) hm hn h40 hn40 hR hcd hcq _ (fun b w4 h1 h2 => ⟨h2, h1.kept0 hs⟩) t4 t10 t24 t25 t26 t27 t28 t29 t30 t31 t32 t33 t34 t35 t36 t37 t38 t39 t40 t41 t42 t43 t44 t45 t46 t47 t48 t49 t50 t51 t52 t53 t54 t55 t56 t57 t58 t59 t60 t61 t62 t63 t64 t65 t66 t67 t68 t69 t70 t71 t72 t73 t74 t75 t76 t77 t78 t79 t80 t81 t82 t83 t84 t85) ?_
  · rintro a w1 w2 hs ⟨b, t4, t14, t15, t16, t17, t18, t86, t87, t88, t89, t90, t91, t92, t93, t94, t95, t96, t97, t98, t99, t100, t101, t102, t103, t104, t105, t106, t107, t108, t109, t110, t111, t112, t113, t114, t115, t116, t117, t118, t119, t120, t121, t122, t123, t124, t125, t126, t127, t128, t129, t130, t131, t132, t133, t134, t135, t136, t137, t138, t139, t140, t141, t142, t143, rfl, h1, h2⟩
    exact ⟨b, t4, t14, t15, t16, t17, t18, t86, t87, t88, t89, t90, t91, t92, t93, t94, t95, t96, t97, t98, t99, t100, t101, t102, t103, t104, t105, t106, t107, t108, t109, t110, t111, t112, t113, t114, t115, t116, t117, t118, t119, t120, t121, t122, t123, t124, t125, t126, t127, t128, t129, t130, t131, t132, t133, t134, t135, t136, t137, t138, t139, t140, t141, t142, t143, rfl, h1, h2.same hs⟩
  rintro a w4 ⟨b, t4, t14, t15, t16, t17, t18, t86, t87, t88, t89, t90, t91, t92, t93, t94, t95, t96, t97, t98, t99, t100, t101, t102, t103, t104, t105, t106, t107, t108, t109, t110, t111, t112, t113, t114, t115, t116, t117, t118, t119, t120, t121, t122, t123, t124, t125, t126, t127, t128, t129, t130, t131, t132, t133, t134, t135, t136, t137, t138, t139, t140, t141, t142, t143, rfl, hb, k4⟩
  exact A.cvxE rv px py bp la ha lcap hcap n m ca ccap bq qx qy b out R w4 (hk.trans k4) (hl.keptC k4) (hC.keptC k4) hcq (k4.cell q0) (k4.cell q1) hb hm hn h40 heR hR hcd h t4 t10 t14 t15 t16 t17 t18 t24 t25 t26 t27 t28 t29 t30 t31 t32 t33 t34 t35 t36 t37 t38 t39 t40 t41 t42 t43 t44 t45 t46 t47 t48 t49 t50 t51 t52 t53 t54 t55 t56 t57 t58 t59 t60 t61 t62 t63 t64 t65 t66 t67 t68 t69 t70 t71 t72 t73 t74 t75 t76 t77 t78 t79 t80 t81 t82 t83 t84 t85 t86 t87 t88 t89 t90 t91 t92 t93 t94 t95 t96 t97 t98 t99 t100 t101 t102 t103 t104 t105 t106 t107 t108 t109 t110 t111 t112 t113 t114 t115 t116 t117 t118 t119 t120 t121 t122 t123 t124 t125 t126 t127 t128 t129 t130 t131 t132 t133 t134 t135 t136 t137 t138 t139 t140 t141 t142 t143

set_option maxHeartbeats 4000000 in
theorem A.cvxC {Post : Value → World → Prop} {W : World} (rv : Value) (px py : Int) (bp : Nat) (la ha : Option Addr) (lcap hcap n m : Nat) (ca : Option Addr) (ccap : Nat) (out R : Pts) (w : World) (hk : Kept W w) (hK : K10 px py bp la ha out R w) (hC : PolyAt w ca R) (hm : out.length = m) (hn : R.length = n) (h40 : m ≤ 40) (hn40 : n ≤ 40) (heR : errL R = 0) (hR : RingSays out R) (hcd : ∀ x ∈ out, CdP x) (hx1 : -9223372036854775808 ≤ px) (hx2 : px < 9223372036854775808) (hy1 : -9223372036854775808 ≤ py) (hy2 : py < 9223372036854775808) (h : ∀ w', Kept W w' → Post (.bool true) w') (t4 t10 t24 t25 t26 t27 t28 t29 t30 t31 t32 t33 t34 t35 t36 t37 t38 t39 t40 t41 t42 t43 t44 t45 t46 t47 t48 t49 t50 t51 t52 t53 t54 t55 t56 t57 t58 t59 t60 t61 t62 t63 t64 t65 t66 t67 t68 t69 t70 t71 t72 t73 t74 t75 t76 : Value) :
    A Try.prog Post ((base 10).at { tmps := #[rv, .agg #[.int .i64 px, .int .i64 py], undef, .pointer (some ⟨bp, 0, none⟩), t4, .bool true, .slice la m lcap, .slice ha n hcap, .int .i64 0, .slice ca n ccap, t10, undef, undef, undef, undef, undef, undef, undef, undef, undef, undef, undef, undef, undef, t24, t25, t26, t27, t28, t29, t30, t31, t32, t33, t34, t35, t36, t37, t38, t39, t40, t41, t42, t43, t44, t45, t46, t47, t48, t49, t50, t51, t52, t53, t54, t55, t56, t57, t58, t59, t60, t61, t62, t63, t64, t65, t66, t67, t68, t69, t70, t71, t72, t73, t74, t75, t76, undef, undef, undef, undef, undef, undef, undef, undef, undef, undef, undef, undef, undef, undef, undef, undef, undef, undef, undef, undef, undef, undef, undef, undef, undef, undef, undef, undef, undef, undef, undef, undef, undef, undef, undef, undef, undef, undef, undef, undef, undef, undef, undef, undef, undef, undef, undef, undef, undef, undef, undef, undef, undef, undef, undef, undef, undef, undef, undef, undef, undef, undef, undef, undef, undef, undef, undef, undef, undef, undef, undef, undef, undef, undef, undef, undef, undef, undef, undef, undef, undef, undef, undef, undef, undef, undef, undef, undef, undef, undef, undef, undef, undef, undef, undef, undef, undef, undef, undef, undef, undef, undef, undef, undef, undef, undef], defers := [] } [.code c10c]) [] w := by
  rw [c10c_eq]
  refine .ctl (fun _ => stepG_seq) ?_
  simp only [c10u, c10c, c10b, c10a, Try.f10]
  refine .ctl (fun _ => stepG_region) ?_
  walk_nrm
  refine .mov (.slice ha n hcap) rfl rfl (.inl rfl) rfl (by decide) ?_
  walk_nrm
  refine .val (.int .i64 (n : Int)) bodP.func rfl rfl (by decide) (.inr (.inr (.inl rfl))) (fun w' _ => by go_simp) ?_
  walk_nrm
  refine .mov (.int .i64 (n : Int)) rfl rfl (.inr rfl) rfl (by decide) ?_
  walk_nrm
  refine .ctl (fun _ => stepG_region_end) ?_
  refine .ctl (fun _ => stepG_seq) ?_
  refine A.seg bodP noEarly (fn := Try.f10) Try.func10 rfl (c := c10q) codeP10q (k := [.code c10d]) rfl (Q := QQ10 rv px py bp la ha lcap hcap n m (.slice ca n ccap) t4 t10 t24 t25 t26 t27 t28 t29 t30 t31 t32 t33 t34 t35 t36 t37 t38 t39 t40 t41 t42 t43 t44 t45 t46 t47 t48 t49 t50 t51 t52 t53 t54 t55 t56 t57 t58 t59 t60 t61 t62 t63 t64 t65 t66 t67 t68 t69 t70 t71 t72 t73 t74 t75 t76 (.slice ha n hcap) (.int .i64 (n : Int)) (fun bq qx qy w' => CdP (qx, qy) ∧ w'.cell? ⟨bq, 0, none⟩ = some (.int .i64 qx) ∧ w'.cell? ⟨bq, 1, none⟩ = some (.int .i64 qy) ∧ Kept w w')) ?_ (fun w' hs => seg10q rv px py bp la ha lcap hcap n m (.slice ca n ccap) w' (hs.kept.cell hK.p0) (hs.kept.cell hK.p1) hx1 hx2 hy1 hy2 _ (fun bq qx qy w3 h1 h2 h3 h4 h5 => ⟨⟨h2, h3⟩, h4, h5, h1.kept0 hs⟩) t4 t10 t24 t25 t26 t27 t28 t29 t30 t31 t32 t33 t34 t35 t36 t37 t38 t39 t40 t41 t42 t43 t44 t45 t46 t47 t48 t49 t50 t51 t52 t53 t54 t55 t56 t57 t58 t59 t60 t61 t62 t63 t64 t65 t66 t67 t68 t69 t70 t71 t72 t73 t74 t75 t76 (.slice ha n hcap) (.int .i64 (n : Int))) ?_
  · rintro a w1 w2 hs ⟨bq, qx, qy, t79, t80, t81, t82, t83, t84, t85, rfl, h1, h2, h3, h4⟩
    exact ⟨bq, qx, qy, t79, t80, t81, t82, t83, t84, t85, rfl, h1, hs.kept.cell h2, hs.kept.cell h3, h4.same hs⟩
  rintro a w3 ⟨bq, qx, qy, t79, t80, t81, t82, t83, t84, t85, rfl, hcq, q0, q1, k3⟩
  exact A.cvxD rv px py bp la ha lcap hcap n m ca ccap bq qx qy out R w3 (hk.trans k3) (hK.l.keptC k3) (hC.keptC k3) hcq q0 q1 hm hn h40 hn40 heR hR hcd h t4 t10 t24 t25 t26 t27 t28 t29 t30 t31 t32 t33 t34 t35 t36 t37 t38 t39 t40 t41 t42 t43 t44 t45 t46 t47 t48 t49 t50 t51 t52 t53 t54 t55 t56 t57 t58 t59 t60 t61 t62 t63 t64 t65 t66 t67 t68 t69 t70 t71 t72 t73 t74 t75 t76 (.slice ha n hcap) (.int .i64 (n : Int)) t79 t80 t81 t82 t83 t84 t85

set_option maxHeartbeats 4000000 in
theorem A.cvx {Post : Value → World → Prop} {W : World} (rv : Value) (px py : Int) (bp : Nat) (la ha : Option Addr) (lcap hcap n m : Nat) (out R : Pts) (w : World) (hK : K10 px py bp la ha out R w) (hk : Kept W w) (hm : out.length = m) (hn : R.length = n) (h40 : m ≤ 40) (hR : RingSays out R) (hcd : ∀ x ∈ out, CdP x) (hx1 : -9223372036854775808 ≤ px) (hx2 : px < 9223372036854775808) (hy1 : -9223372036854775808 ≤ py) (hy2 : py < 9223372036854775808) (h : ∀ w', Kept W w' → Post (.bool true) w') (t24 t25 t26 t27 t28 t29 t30 t31 : Value) :
    A Try.prog Post ((base 10).at { tmps := #[rv, .agg #[.int .i64 px, .int .i64 py], undef, .pointer (some ⟨bp, 0, none⟩), .bool false, .bool true, .slice la m lcap, .slice ha n hcap, .int .i64 0, undef, undef, undef, undef, undef, undef, undef, undef, undef, undef, undef, undef, undef, undef, undef, t24, t25, t26, t27, t28, t29, t30, t31, undef, undef, undef, undef, undef, undef, undef, undef, undef, undef, undef, undef, undef, undef, undef, undef, undef, undef, undef, undef, undef, undef, undef, undef, undef, undef, undef, undef, undef, undef, undef, undef, undef, undef, undef, undef, undef, undef, undef, undef, undef, undef, undef, undef, undef, undef, undef, undef, undef, undef, undef, undef, undef, undef, undef, undef, undef, undef, undef, undef, undef, undef, undef, undef, undef, undef, undef, undef, undef, undef, undef, undef, undef, undef, undef, undef, undef, undef, undef, undef, undef, undef, undef, undef, undef, undef, undef, undef, undef, undef, undef, undef, undef, undef, undef, undef, undef, undef, undef, undef, undef, undef, undef, undef, undef, undef, undef, undef, undef, undef, undef, undef, undef, undef, undef, undef, undef, undef, undef, undef, undef, undef, undef, undef, undef, undef, undef, undef, undef, undef, undef, undef, undef, undef, undef, undef, undef, undef, undef, undef, undef, undef, undef, undef, undef, undef, undef, undef, undef, undef, undef], defers := [] } [.code c10a]) [] w := by
  have hn40 : n ≤ 40 := by have := hR.len; omega
  have hmn : m = 0 ↔ n = 0 := by
    rw [← hm, ← hn, List.length_eq_zero_iff, List.length_eq_zero_iff]
    exact hR.some.symm
  have heR : errL R = 0 := by
    unfold errL
    rw [if_neg (by omega), okE]
    have : okB R = true := by
      unfold okB
      rw [List.all_eq_true]
      intro x hx
      have := hcd x (hR.sub x hx)
      simp [cdB_iff.2 this.1, cdB_iff.2 this.2]
    rw [this]
    rfl
  rw [c10a_eq]
  refine .ctl (fun _ => stepG_seq) ?_
  refine A.seg bodP noEarly (fn := Try.f10) Try.func10 rfl (c := c10p) codeP10p (k := [.code c10b]) rfl (Q := QP10 rv px py bp la ha lcap hcap n m t24 t25 t26 t27 t28 t29 t30 t31 fun w' => Kept w w') ?_ (fun w' hs => seg10p rv px py bp la ha lcap hcap n m w' hmn _ hs.kept t24 t25 t26 t27 t28 t29 t30 t31) ?_
  · rintro a w1 w2 hs ⟨t32, t33, t34, t35, t36, t37, t38, t39, t40, t41, t42, t43, t44, t45, t46, rfl, h1⟩
    exact ⟨t32, t33, t34, t35, t36, t37, t38, t39, t40, t41, t42, t43, t44, t45, t46, rfl, h1.same hs⟩
  rintro a w1 ⟨t32, t33, t34, t35, t36, t37, t38, t39, t40, t41, t42, t43, t44, t45, t46, rfl, k1⟩
  rw [c10b_eq]
  refine .ctl (fun _ => stepG_seq) ?_
  simp only [c10g, c10b, c10a, Try.f10]
  refine .ctl (fun _ => stepG_region) ?_
  walk_nrm
  refine .mov (.slice none 0 0) rfl rfl (.inr rfl) rfl (by decide) ?_
  walk_nrm
  refine .ctl (fun _ => stepG_region_end) ?_
  refine .ctl (fun _ => stepG_seq) ?_
  refine A.seg bodP noEarly (fn := Try.f10) Try.func10 rfl (c := c10l) codeP10l (k := [.code c10c]) rfl (Q := QL10 rv px py bp la ha lcap hcap n m t24 t25 t26 t27 t28 t29 t30 t31 t32 t33 t34 t35 t36 t37 t38 t39 t40 t41 t42 t43 t44 t45 t46 fun cv w' => ∃ ca ccap, cv = .slice ca n ccap ∧ PolyAt w' ca R ∧ Kept w1 w') ?_ (fun w' hs => loop10 rv px py bp la ha lcap hcap n m out R w' (hK.kept (k1.same hs)) hm hn h40 hn40 hR.sub _ (fun cv w2 h1 h2 => ?_) t24 t25 t26 t27 t28 t29 t30 t31 t32 t33 t34 t35 t36 t37 t38 t39 t40 t41 t42 t43 t44 t45 t46) ?_
  · rintro a w1 w2 hs ⟨cv, t4, t10, t47, t48, t49, t50, t51, t52, t53, t54, t55, t56, t57, t58, t59, t60, t61, t62, t63, t64, t65, t66, t67, t68, t69, t70, t71, t72, t73, t74, t75, t76, rfl, ca, ccap, e, h1, h2⟩
    exact ⟨cv, t4, t10, t47, t48, t49, t50, t51, t52, t53, t54, t55, t56, t57, t58, t59, t60, t61, t62, t63, t64, t65, t66, t67, t68, t69, t70, t71, t72, t73, t74, t75, t76, rfl, ca, ccap, e, h1.keptC hs.kept, h2.same hs⟩
  · obtain ⟨ca, ccap, e, hp⟩ := own_poly h2 hn
    exact ⟨ca, ccap, e, hp, h1.kept0 hs⟩
  rintro a w2 ⟨cv, t4, t10, t47, t48, t49, t50, t51, t52, t53, t54, t55, t56, t57, t58, t59, t60, t61, t62, t63, t64, t65, t66, t67, t68, t69, t70, t71, t72, t73, t74, t75, t76, rfl, ca, ccap, rfl, hC, k2⟩
  exact A.cvxC rv px py bp la ha lcap hcap n m ca ccap out R w2 ((hk.trans k1).trans k2) (hK.kept (k1.trans k2)) hC hm hn h40 hn40 heR hR hcd hx1 hx2 hy1 hy2 h t4 t10 t24 t25 t26 t27 t28 t29 t30 t31 t32 t33 t34 t35 t36 t37 t38 t39 t40 t41 t42 t43 t44 t45 t46 t47 t48 t49 t50 t51 t52 t53 t54 t55 t56 t57 t58 t59 t60 t61 t62 t63 t64 t65 t66 t67 t68 t69 t70 t71 t72 t73 t74 t75 t76

set_option maxHeartbeats 4000000 in
/-- Convex answers true, and leaves what there was as it was. -/
theorem A.convex {Post : Value → World → Prop} {W : World} {ro : Option Addr} {rcap : Nat} {rl : Pts} {px py : Int} (hP : PolyAt W ro rl) (hin : In64 rl) (hx1 : -9223372036854775808 ≤ px) (hx2 : px < 9223372036854775808) (hy1 : -9223372036854775808 ≤ py) (hy2 : py < 9223372036854775808) (hG : GN ≤ W.heap.size) (h : ∀ w', Kept W w' → Post (.bool true) w') :
    A Try.prog Post (Frame.enter Try.prog 10 #[.slice ro rl.length rcap, .agg #[.int .i64 px, .int .i64 py]] .normal) [] W := by
  rw [Conc.enter_at _ Try.func10 (c := Try.f10.body.getD .skip) rfl]
  walk_nrmf Try.f10
  refine .ctl (fun _ => stepG_seq) ?_
  refine .ctl (fun _ => stepG_region) ?_
  walk_nrm
  refine .op bodP.func rfl rfl (by decide) trivial fun w0 hs0 => ⟨.pointer (some ⟨w0.heap.size, 0, none⟩), w0.alloc (.cells #[.int .i64 px, .int .i64 py] 23), by go_simp, ?_⟩
  walk_nrm
  have kB : Kept W (w0.alloc (.cells #[.int .i64 px, .int .i64 py] 23)) := (New.alloc w0 _).kept0 hs0
  have p0 : (w0.alloc (.cells #[.int .i64 px, .int .i64 py] 23)).cell? ⟨w0.heap.size, 0, none⟩ = some (.int .i64 px) := by go_simp
  have p1 : (w0.alloc (.cells #[.int .i64 px, .int .i64 py] 23)).cell? ⟨w0.heap.size, 1, none⟩ = some (.int .i64 py) := by go_simp
  generalize w0.alloc (.cells #[.int .i64 px, .int .i64 py] 23) = wB at kB p0 p1 ⊢
  generalize w0.heap.size = bp at p0 p1 ⊢
  clear hs0
  refine .mov (.bool false) rfl rfl (.inr rfl) rfl (by decide) ?_
  walk_nrm
  refine .ctl (fun _ => stepG_region_end) ?_
  refine .ctl (fun _ => stepG_seq) ?_
  refine .ctl (fun _ => stepG_region) ?_
  walk_nrm
  refine .ent (f := 16) (xs := #[]) rfl rfl (by decide) (fun w' => by go_simp) (fun w' => by simp [go_sem, callFunc, Try.func16, Try.f16]) ?_
  refine A.call bodP noEarly fs16 Try.func16 (c := Try.f16.body.getD .skip) rfl (Q := fun v w' => v = .bool true ∧ Kept wB w') (fun v w1 w2 k q => ⟨q.1, q.2.same k⟩) (fun w' hs' => (sure_any w').mono ?_) fun tv w1 hq => ?_
  · rintro e w2 ⟨rfl, H⟩
    exact ⟨_, rfl, rfl, H.out.kept0 hs'⟩
  obtain ⟨rfl, k1⟩ := hq
  rw [Frame.finish_at]
  walk_nrm
  refine .mov (.bool true) rfl rfl (.inr rfl) rfl (by decide) ?_
  walk_nrm
  refine .ctl (fun _ => stepG_region_end) ?_
  refine .ctl (fun _ => stepG_seq) ?_
  refine .ctl (fun _ => stepG_region) ?_
  walk_nrm
  refine .mov (.slice ro rl.length rcap) rfl rfl (.inl rfl) rfl (by decide) ?_
  walk_nrm
  refine .ent (f := 17) (xs := #[.slice ro rl.length rcap]) rfl rfl (by decide) (fun w' => by go_simp) (fun w' => by simp [go_sem, callFunc, Try.func17, Try.f17]) ?_
  refine A.call bodP noEarly fs17 Try.func17 (c := Try.f17.body.getD .skip) rfl (Q := fun v w' => Kept w1 w' ∧ ∃ out : Pts, okB out = true ∧ out.length ≤ 40 ∧ w'.ownsRow w1.heap.size 23 2 v out.length (flatP out) ∧ AllRow IntCell w' v) ?_ (fun w' hs' => (fits_poly ro rcap rl w' (hP.keptC ((kB.trans k1).same hs')) hin).mono ?_) fun lv w2 hq => ?_
  · rintro v w1 w2 k ⟨h1, out, h2, h3, h4, h5⟩
    refine ⟨h1.same k, out, h2, h3, ?_, fun g hg c e f hc => h5 g hg c e f (by rw [← k.heap]; exact hc)⟩
    refine ⟨h4.1, ?_⟩
    rcases h4.2 with ⟨e, hn⟩ | ⟨g, cap, cur, e, hb, hg, rest⟩
    · exact .inl ⟨e, hn⟩
    · exact .inr ⟨g, cap, cur, e, hb, by rw [k.heap]; exact hg, rest⟩
  · rintro e w2 ⟨v, out, rfl, H⟩
    have hg := H.out.got
    refine ⟨v, rfl, hg.new.kept0 hs', out, hg.ok, by rw [hg.len]; omega, ?_, H.out.ints⟩
    have := hg.own
    rw [hs'.heap, ← hg.len] at this
    exact this
  obtain ⟨k2, out, hok, h40, hown, hints⟩ := hq
  have hcd : ∀ x ∈ out, CdP x := fun x hx => okB_cd hok hx
  have hrow := own_rowL hown hints (Nat.le_trans hG (kB.trans k1).size)
  have herr : errL out = 0 := by
    unfold errL
    rw [if_neg (by omega), okE, hok]
    rfl
  rw [Frame.finish_at]
  walk_nrm
  refine .mov (lv) rfl rfl (.inr rfl) rfl (by decide) ?_
  walk_nrm
  refine .ctl (fun _ => stepG_region_end) ?_
  refine .ctl (fun _ => stepG_seq) ?_
  refine .ctl (fun _ => stepG_region) ?_
  walk_nrm
  refine .mov (lv) rfl rfl (.inl rfl) rfl (by decide) ?_
  walk_nrm
  refine .ent (f := 32) (xs := #[lv]) rfl rfl (by decide) (fun w' => by go_simp) (fun w' => by simp [go_sem, callFunc, Try.func32, Try.f32]) ?_
  refine A.hull hrow (Nat.le_trans hG ((kB.trans k1).trans k2).size) (fun he => absurd herr he) fun _ hv w3 hO => ?_
  rw [Frame.finish_at]
  walk_nrm
  refine .mov (.tuple #[hv, .int .i64 0]) rfl rfl (.inl rfl) rfl (by decide) ?_
  walk_nrm
  refine .val (hv) bodP.func rfl rfl (by decide) trivial (fun w' _ => by go_simp) ?_
  walk_nrm
  refine .val (.int .i64 0) bodP.func rfl rfl (by decide) trivial (fun w' _ => by go_simp) ?_
  walk_nrm
  refine .mov (hv) rfl rfl (.inr rfl) rfl (by decide) ?_
  walk_nrm
  refine .mov (.int .i64 0) rfl rfl (.inr rfl) rfl (by decide) ?_
  walk_nrm
  refine .ctl (fun _ => stepG_region_end) ?_
  have hrs := ring_says hcd
  obtain ⟨la, lcap, rfl, hl⟩ := own_poly hown rfl
  obtain ⟨ha, hcap, rfl, hh⟩ := own_nums (xs := (ringOf out).map (num out)) hO.row (by rw [hullN_ring hcd, List.map_map]; rfl)
  have k3 := hO.kept
  rw [List.length_map]
  exact A.cvx _ px py bp la ha lcap hcap (ringOf out).length out.length out (ringOf out) w3 ⟨((k1.trans k2).trans k3).cell p0, ((k1.trans k2).trans k3).cell p1, hl.keptC k3, hh⟩ (((kB.trans k1).trans k2).trans k3) rfl rfl h40 hrs hcd hx1 hx2 hy1 hy2 h _ _ _ _ _ _ _ _ 

end Go.Proofs.Ytgeoffpcmkofkaa
