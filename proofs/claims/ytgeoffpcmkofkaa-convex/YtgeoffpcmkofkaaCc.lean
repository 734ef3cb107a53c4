/- Convex: its point. (Made by gen10.py.) -/
import Derived.Test.YtgeoffpcmkofkaaCb
namespace Go.Proofs.Ytgeoffpcmkofkaa
open Go Go.Conc Go.RowKit Fl Go.Maps Go.Lib Go.Joins
set_option maxRecDepth 100000
attribute [local go_sem ↓] Go.wp_at_zero Go.wp_at_succ

theorem two_keep {w w' : World} {b : Nat} {x y : Value} (k : New w w') (h : w.cell? ⟨b, 0, none⟩ = some x ∧ w.cell? ⟨b, 1, none⟩ = some y) : w'.cell? ⟨b, 0, none⟩ = some x ∧ w'.cell? ⟨b, 1, none⟩ = some y := ⟨k.kept' h.1, k.kept' h.2⟩
theorem two_set {w : World} {b b' i j : Nat} {x y u v : Value} (hne : b ≠ b') (h : w.cell? ⟨b, 0, none⟩ = some x ∧ w.cell? ⟨b, 1, none⟩ = some y) : ((w.setCell ⟨b', i, none⟩ u).setCell ⟨b', j, none⟩ v).cell? ⟨b, 0, none⟩ = some x ∧ ((w.setCell ⟨b', i, none⟩ u).setCell ⟨b', j, none⟩ v).cell? ⟨b, 1, none⟩ = some y := by
  rw [set_other hne, set_other hne, set_other hne, set_other hne]
  exact h
theorem set_pair {w wA w1 : World} {r1 r2 : Int} (hA : wA.heap[w.heap.size]? = some (.cells #[.int .i64 0, .int .i64 0] 23 (0, 0))) (h : New wA w1) : ((w1.setCell ⟨w.heap.size, 0, none⟩ (.int .i64 r1)).setCell ⟨w.heap.size, 1, none⟩ (.int .i64 r2)).cell? ⟨w.heap.size, 0, none⟩ = some (.int .i64 r1) ∧ ((w1.setCell ⟨w.heap.size, 0, none⟩ (.int .i64 r1)).setCell ⟨w.heap.size, 1, none⟩ (.int .i64 r2)).cell? ⟨w.heap.size, 1, none⟩ = some (.int .i64 r2) := by
  have h1 : w1.heap[w.heap.size]? = some (.cells #[.int .i64 0, .int .i64 0] 23 (0, 0)) := by rw [h.block _ (Array.getElem?_eq_some_iff.1 hA).1 (by simp)]; exact hA
  have h2 := pair_set1 (x := .int .i64 r1) (y := .int .i64 0) (u := .int .i64 r2) (pair_set0 (u := .int .i64 r1) h1)
  exact ⟨pair_cell0 h2, pair_cell1 h2⟩
def QQ10 (rv : Value) (px py : Int) (bp : Nat) (la ha : Option Addr) (lcap hcap n m : Nat) (cv : Value) (t4 t10 t24 t25 t26 t27 t28 t29 t30 t31 t32 t33 t34 t35 t36 t37 t38 t39 t40 t41 t42 t43 t44 t45 t46 t47 t48 t49 t50 t51 t52 t53 t54 t55 t56 t57 t58 t59 t60 t61 t62 t63 t64 t65 t66 t67 t68 t69 t70 t71 t72 t73 t74 t75 t76 t77 t78 : Value) (F : Nat → Int → Int → World → Prop) (a : Act) (w : World) : Prop :=
  ∃ bq qx qy t79 t80 t81 t82 t83 t84 t85, a = { tmps := #[rv, .agg #[.int .i64 px, .int .i64 py], undef, .pointer (some ⟨bp, 0, none⟩), t4, .bool true, .slice la m lcap, .slice ha n hcap, .int .i64 0, cv, t10, .int .i64 (n : Int), .pointer (some ⟨bq, 0, none⟩), undef, undef, undef, undef, undef, undef, undef, undef, undef, undef, undef, t24, t25, t26, t27, t28, t29, t30, t31, t32, t33, t34, t35, t36, t37, t38, t39, t40, t41, t42, t43, t44, t45, t46, t47, t48, t49, t50, t51, t52, t53, t54, t55, t56, t57, t58, t59, t60, t61, t62, t63, t64, t65, t66, t67, t68, t69, t70, t71, t72, t73, t74, t75, t76, t77, t78, t79, t80, t81, t82, t83, t84, t85, undef, undef, undef, undef, undef, undef, undef, undef, undef, undef, undef, undef, undef, undef, undef, undef, undef, undef, undef, undef, undef, undef, undef, undef, undef, undef, undef, undef, undef, undef, undef, undef, undef, undef, undef, undef, undef, undef, undef, undef, undef, undef, undef, undef, undef, undef, undef, undef, undef, undef, undef, undef, undef, undef, undef, undef, undef, undef, undef, undef, undef, undef, undef, undef, undef, undef, undef, undef, undef, undef, undef, undef, undef, undef, undef, undef, undef, undef, undef, undef, undef, undef, undef, undef, undef, undef, undef, undef, undef, undef, undef, undef, undef, undef, undef, undef, undef], defers := [] } ∧ F bq qx qy w
set_option maxHeartbeats 3200000 in
theorem seg10q (rv : Value) (px py : Int) (bp : Nat) (la ha : Option Addr) (lcap hcap n m : Nat) (cv : Value) (w : World) (h0 : w.cell? ⟨bp, 0, none⟩ = some (.int .i64 px)) (h1 : w.cell? ⟨bp, 1, none⟩ = some (.int .i64 py)) (hx1 : -9223372036854775808 ≤ px) (hx2 : px < 9223372036854775808) (hy1 : -9223372036854775808 ≤ py) (hy2 : py < 9223372036854775808)
    (F : Nat → Int → Int → World → Prop) (hF : ∀ bq qx qy w', New w w' → Cd qx → Cd qy → w'.cell? ⟨bq, 0, none⟩ = some (.int .i64 qx) → w'.cell? ⟨bq, 1, none⟩ = some (.int .i64 qy) → F bq qx qy w') (t4 t10 t24 t25 t26 t27 t28 t29 t30 t31 t32 t33 t34 t35 t36 t37 t38 t39 t40 t41 t42 t43 t44 t45 t46 t47 t48 t49 t50 t51 t52 t53 t54 t55 t56 t57 t58 t59 t60 t61 t62 t63 t64 t65 t66 t67 t68 t69 t70 t71 t72 t73 t74 t75 t76 t77 t78 : Value) :
    c10q.wp Try.prog (fun e a w' => e = .normal ∧ QQ10 rv px py bp la ha lcap hcap n m cv t4 t10 t24 t25 t26 t27 t28 t29 t30 t31 t32 t33 t34 t35 t36 t37 t38 t39 t40 t41 t42 t43 t44 t45 t46 t47 t48 t49 t50 t51 t52 t53 t54 t55 t56 t57 t58 t59 t60 t61 t62 t63 t64 t65 t66 t67 t68 t69 t70 t71 t72 t73 t74 t75 t76 t77 t78 F a w') { tmps := #[rv, .agg #[.int .i64 px, .int .i64 py], undef, .pointer (some ⟨bp, 0, none⟩), t4, .bool true, .slice la m lcap, .slice ha n hcap, .int .i64 0, cv, t10, .int .i64 (n : Int), undef, undef, undef, undef, undef, undef, undef, undef, undef, undef, undef, undef, t24, t25, t26, t27, t28, t29, t30, t31, t32, t33, t34, t35, t36, t37, t38, t39, t40, t41, t42, t43, t44, t45, t46, t47, t48, t49, t50, t51, t52, t53, t54, t55, t56, t57, t58, t59, t60, t61, t62, t63, t64, t65, t66, t67, t68, t69, t70, t71, t72, t73, t74, t75, t76, t77, t78, undef, undef, undef, undef, undef, undef, undef, undef, undef, undef, undef, undef, undef, undef, undef, undef, undef, undef, undef, undef, undef, undef, undef, undef, undef, undef, undef, undef, undef, undef, undef, undef, undef, undef, undef, undef, undef, undef, undef, undef, undef, undef, undef, undef, undef, undef, undef, undef, undef, undef, undef, undef, undef, undef, undef, undef, undef, undef, undef, undef, undef, undef, undef, undef, undef, undef, undef, undef, undef, undef, undef, undef, undef, undef, undef, undef, undef, undef, undef, undef, undef, undef, undef, undef, undef, undef, undef, undef, undef, undef, undef, undef, undef, undef, undef, undef, undef, undef, undef, undef, undef, undef, undef, undef], defers := [] } w := by
  simp only [c10q, c10c, c10b, c10a, Try.f10]
  have HF : Hid (∀ bq qx qy w', New w w' → Cd qx → Cd qy → w'.cell? ⟨bq, 0, none⟩ = some (.int .i64 qx) → w'.cell? ⟨bq, 1, none⟩ = some (.int .i64 qy) → F bq qx qy w') := hF
  have HP : Hid (w.cell? ⟨bp, 0, none⟩ = some (.int .i64 px) ∧ w.cell? ⟨bp, 1, none⟩ = some (.int .i64 py)) := ⟨h0, h1⟩
  clear hF
  have HB : Hid (bp < w.heap.size) := World.block_lt_of_cell? w ⟨bp, 0, none⟩ h0
  have F1 : Hid (0 ≤ n) := Nat.zero_le _
  have HW : Hid (New w w.drew) := (New.refl _).dr
  go_wp2_with fail
  go_region_held3 (fun V => V.cell? ⟨bp, 0, none⟩ = some (.int .i64 px) ∧ V.cell? ⟨bp, 1, none⟩ = some (.int .i64 py))
    (first | exact ⟨HW.out.kept' HP.out.1, HW.out.kept' HP.out.2⟩ | exact two_keep H1.out (by assumption) | exact two_keep (New.alloc _ _) (by assumption) | exact two_keep ((HW.out.trans' H1.out).alloc' _) HP.out | exact two_keep ((HW.out.alloc' _).trans' H1.out) HP.out | exact two_set (by have := HB.out; have := H1.out.size; simp at *; omega) (by assumption) | exact two_set (by have := HB.out; simp at *; omega) (by assumption) | go_keep)
    (first
      | (go_at_call 35; clear F1; refine (fit_any px _ hx1 hx2).mono ?_; rintro e wf1 ⟨r1, rfl, HC1, rfl⟩)
      | (go_at_call 35; refine (fit_any py _ hy1 hy2).mono ?_; rintro e wf2 ⟨r2, rfl, HC2, rfl⟩)
      | (go_at_call 34; refine (at_any r1 r2 _).mono ?_; rintro e w1 ⟨rfl, H1⟩; have rr := H1.out.rule; have rf := H1.out.frule))
  all_goals first
    | exact ⟨rfl, _, _, _, _, _, _, _, _, _, _, rfl, HF.out _ _ _ _ ((HW.out.trans' H1.out).alloc' _) HC1.out HC2.out (by go_simp) (by go_simp)⟩
    | exact ⟨rfl, _, _, _, _, _, _, _, _, _, _, rfl, HF.out _ _ _ _ (((((New.alloc w _).dr).trans' H1.out).set (Nat.le_refl _) _).set (Nat.le_refl _) _) HC1.out HC2.out (set_pair (heap_alloc_new w _) ((New.refl _).dr.trans' H1.out)).1 (set_pair (heap_alloc_new w _) ((New.refl _).dr.trans' H1.out)).2⟩

end Go.Proofs.Ytgeoffpcmkofkaa
