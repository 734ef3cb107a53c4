/- Convex: its corners. (Made by gen10.py.) -/
import Derived.Test.YtgeoffpcmkofkaaCa
namespace Go.Proofs.Ytgeoffpcmkofkaa
open Go Go.Conc Go.RowKit Fl Go.Maps Go.Lib Go.Joins
set_option maxRecDepth 100000
attribute [local go_sem ↓] Go.wp_at_zero Go.wp_at_succ

/-- Behind the first loop. -/
def QL10 (rv : Value) (px py : Int) (bp : Nat) (la ha : Option Addr) (lcap hcap n m : Nat) (t24 t25 t26 t27 t28 t29 t30 t31 t32 t33 t34 t35 t36 t37 t38 t39 t40 t41 t42 t43 t44 t45 t46 : Value) (F : Value → World → Prop) (a : Act) (w : World) : Prop :=
  ∃ cv t4 t10 t47 t48 t49 t50 t51 t52 t53 t54 t55 t56 t57 t58 t59 t60 t61 t62 t63 t64 t65 t66 t67 t68 t69 t70 t71 t72 t73 t74 t75 t76, a = { tmps := #[rv, .agg #[.int .i64 px, .int .i64 py], undef, .pointer (some ⟨bp, 0, none⟩), t4, .bool true, .slice la m lcap, .slice ha n hcap, .int .i64 0, cv, t10, undef, undef, undef, undef, undef, undef, undef, undef, undef, undef, undef, undef, undef, t24, t25, t26, t27, t28, t29, t30, t31, t32, t33, t34, t35, t36, t37, t38, t39, t40, t41, t42, t43, t44, t45, t46, t47, t48, t49, t50, t51, t52, t53, t54, t55, t56, t57, t58, t59, t60, t61, t62, t63, t64, t65, t66, t67, t68, t69, t70, t71, t72, t73, t74, t75, t76, undef, undef, undef, undef, undef, undef, undef, undef, undef, undef, undef, undef, undef, undef, undef, undef, undef, undef, undef, undef, undef, undef, undef, undef, undef, undef, undef, undef, undef, undef, undef, undef, undef, undef, undef, undef, undef, undef, undef, undef, undef, undef, undef, undef, undef, undef, undef, undef, undef, undef, undef, undef, undef, undef, undef, undef, undef, undef, undef, undef, undef, undef, undef, undef, undef, undef, undef, undef, undef, undef, undef, undef, undef, undef, undef, undef, undef, undef, undef, undef, undef, undef, undef, undef, undef, undef, undef, undef, undef, undef, undef, undef, undef, undef, undef, undef, undef, undef, undef, undef, undef, undef, undef, undef, undef, undef], defers := [] } ∧ F cv w
set_option maxHeartbeats 3200000 in
theorem loop10 (rv : Value) (px py : Int) (bp : Nat) (la ha : Option Addr) (lcap hcap n m : Nat) (out R : Pts) (w : World) (hK : K10 px py bp la ha out R w) (hm : out.length = m) (hn : R.length = n) (h40 : m ≤ 40) (hn40 : n ≤ 40) (hsub : ∀ x ∈ R, x ∈ out) (F : Value → World → Prop)
    (hF : ∀ cv w', New w w' → w'.ownsRow w.heap.size 23 2 cv n (flatP R) → F cv w') (t24 t25 t26 t27 t28 t29 t30 t31 t32 t33 t34 t35 t36 t37 t38 t39 t40 t41 t42 t43 t44 t45 t46 : Value) :
    c10l.wp Try.prog (fun e a w' => e = .normal ∧ QL10 rv px py bp la ha lcap hcap n m t24 t25 t26 t27 t28 t29 t30 t31 t32 t33 t34 t35 t36 t37 t38 t39 t40 t41 t42 t43 t44 t45 t46 F a w') { tmps := #[rv, .agg #[.int .i64 px, .int .i64 py], undef, .pointer (some ⟨bp, 0, none⟩), .bool false, .bool true, .slice la m lcap, .slice ha n hcap, .int .i64 0, .slice none 0 0, undef, undef, undef, undef, undef, undef, undef, undef, undef, undef, undef, undef, undef, undef, t24, t25, t26, t27, t28, t29, t30, t31, t32, t33, t34, t35, t36, t37, t38, t39, t40, t41, t42, t43, t44, t45, t46, undef, undef, undef, undef, undef, undef, undef, undef, undef, undef, undef, undef, undef, undef, undef, undef, undef, undef, undef, undef, undef, undef, undef, undef, undef, undef, undef, undef, undef, undef, undef, undef, undef, undef, undef, undef, undef, undef, undef, undef, undef, undef, undef, undef, undef, undef, undef, undef, undef, undef, undef, undef, undef, undef, undef, undef, undef, undef, undef, undef, undef, undef, undef, undef, undef, undef, undef, undef, undef, undef, undef, undef, undef, undef, undef, undef, undef, undef, undef, undef, undef, undef, undef, undef, undef, undef, undef, undef, undef, undef, undef, undef, undef, undef, undef, undef, undef, undef, undef, undef, undef, undef, undef, undef, undef, undef, undef, undef, undef, undef, undef, undef, undef, undef, undef, undef, undef, undef, undef, undef, undef, undef, undef, undef, undef, undef, undef, undef, undef, undef, undef, undef, undef, undef, undef, undef], defers := [] } w := by
  simp only [c10l, c10b, c10a, Try.f10]
  have HK : Hid (K10 px py bp la ha out R w ∧ out.length = m ∧ R.length = n ∧ ∀ x ∈ R, x ∈ out) := ⟨hK, hm, hn, hsub⟩
  have HF : Hid (∀ cv w', New w w' → w'.ownsRow w.heap.size 23 2 cv n (flatP R) → F cv w') := hF
  clear hK hm hn hsub hF
  go_wp2_with fail
  go_loopw [9, 10] (fun v i wr => ∃ k : Nat, i = .int .i64 (k : Int) ∧ k ≤ n ∧ Hid (New w wr ∧ wr.ownsRow w.heap.size 23 2 v k (flatP (R.take k)))) (fun _ i _ => n - (intOf i).toNat)
  case atStart => exact ⟨0, rfl, Nat.zero_le _, New.refl _, World.ownsRow_nil _ _ _ _⟩
  case round =>
    obtain ⟨k, rfl, hk, H⟩ := hrel
    rcases Nat.lt_or_ge k n with hk' | hk'
    · obtain ⟨x, hx⟩ : ∃ x, R[k]? = some x := ⟨_, List.getElem?_eq_getElem (by rw [HK.out.2.2.1]; exact hk')⟩
      have hxl := HK.out.2.2.2 x (List.mem_of_getElem? hx)
      obtain ⟨j, hj⟩ : ∃ j, j = num out x := ⟨_, rfl⟩
      have hjl : j < m := by rw [hj, ← HK.out.2.1]; exact num_lt hxl
      have hjx : out[j]? = some x := by rw [hj]; exact (num_of hxl).1.here
      obtain ⟨gh, eh, fh⟩ := HK.out.1.h (by rw [List.length_map, HK.out.2.2.1]; omega)
      obtain ⟨gl, offl, el, fl, gll⟩ := HK.out.1.l (by rw [HK.out.2.1]; omega)
      have HE : Hid (R[k]? = some x) := hx
      have x0 : wr.cell? ⟨gh, k, none⟩ = some (.int .i64 (j : Int)) := H.out.1.kept' (fh k j (by rw [List.getElem?_map, hx, hj]; rfl))
      have hjo : j < out.length := by rw [HK.out.2.1]; exact hjl
      have l0 := (fl.kept gll H.out.1 j hjo).1
      have l1 := (fl.kept gll H.out.1 j hjo).2
      rw [show out[j] = x from (List.getElem?_eq_some_iff.1 hjx).2] at l0 l1
      obtain ⟨vk, wk, k1, R1⟩ := pushP H.out.1 H.out.2 x.1 x.2 (by omega)
      have HR : Hid (New w wk ∧ wk.ownsRow w.heap.size 23 2 vk (k + 1) (flatP (R.take (k + 1)))) := ⟨R1.out.1, by rw [flat_take HE.out]; exact R1.out.2⟩
      clear R1 fh fl hx hj hjx hxl hjo
      subst eh el
      have i0 : (0 : Int) ≤ (k : Int) := by omega
      have i1 : (k : Int) < (n : Int) := by omega
      have i2 : (0 : Int) ≤ (j : Int) := by omega
      have i3 : (j : Int) < (m : Int) := by omega
      have i4 : ¬(j : Int) < 0 := by omega
      have i5 : ¬(m : Int) ≤ (j : Int) := by omega
      have i6 : decide ((j : Int) < 0) = false := decide_eq_false i4
      have i7 : decide ((m : Int) ≤ (j : Int)) = false := decide_eq_false i5
      have hw1 : IntKind.i64.wrap ((k : Int) + 1) = (k : Int) + 1 := by rw [IntKind.wrap_i64]; omega
      go_wp2_with (first | (at_builtin; refine Go.Lib.wpList_append_run _ rfl _ _ 28 28 rfl _ _ rfl rfl vk wk k1 ?_) | go_in)
      go_roundw
      case rel => exact ⟨k + 1, by go_num, hk', HR⟩
      case measure => simp [intOf]; omega
    · have e : k = n := by omega
      subst e
      go_wp2_with fail
      refine ⟨_, _, _, _, _, _, _, _, _, _, _, _, _, _, _, _, _, _, _, _, _, _, _, _, _, _, _, _, _, _, _, _, _, rfl, HF.out _ _ H.out.1 ?_⟩
      have := H.out.2
      rwa [List.take_of_length_le (by rw [HK.out.2.2.1]; exact Nat.le_refl _)] at this

end Go.Proofs.Ytgeoffpcmkofkaa
