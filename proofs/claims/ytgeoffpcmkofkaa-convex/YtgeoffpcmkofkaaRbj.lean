/- Ca; Cb; Cc; Ce; Cf; Cg: texts laid into one. -/
import Derived.Test.YtgeoffpcmkofkaaRbg
import Derived.Test.YtgeoffpcmkofkaaRbi
import Derived.Deep.AppendLies
/- For Convex: what stands between its calls. (Made by gen10.py.) -/
namespace Go.Proofs.Ytgeoffpcmkofkaa
open Go Go.Conc Go.RowKit Fl Go.Maps Go.Lib Go.Joins
set_option maxRecDepth 100000
attribute [local go_sem ↓] Go.wp_at_zero Go.wp_at_succ

noncomputable def c10a : Code := match Try.f10.body with
  | some (.seq _ (.seq _ (.seq _ (.seq _ r)))) => r
  | _ => .skip
noncomputable def c10p : Code := match c10a with
  | .seq r _ => r
  | _ => .skip
noncomputable def c10b : Code := match c10a with
  | .seq _ r => r
  | _ => .skip
noncomputable def c10l : Code := match c10b with
  | .seq _ (.seq r _) => r
  | _ => .skip
noncomputable def c10c : Code := match c10b with
  | .seq _ (.seq _ r) => r
  | _ => .skip
noncomputable def c10q : Code := match c10c with
  | .seq _ (.seq r _) => r
  | _ => .skip
noncomputable def c10d : Code := match c10c with
  | .seq _ (.seq _ r) => r
  | _ => .skip
noncomputable def c10m : Code := match c10d with
  | .seq _ (.seq r _) => r
  | _ => .skip
noncomputable def c10e : Code := match c10d with
  | .seq _ (.seq _ r) => r
  | _ => .skip
noncomputable def c10n : Code := match c10e with
  | .seq r _ => r
  | _ => .skip
noncomputable def c10r : Code := match c10e with
  | .seq _ r => r
  | _ => .skip
theorem codeP10p : CodeP Try.prog (FSof fsI) c10p := codeP_sound (by kernel_rfl)
theorem codeP10l : CodeP Try.prog (FSof fsI) c10l := codeP_sound (by kernel_rfl)
theorem codeP10q : CodeP Try.prog (FSof fsI) c10q := codeP_sound (by kernel_rfl)
theorem codeP10m : CodeP Try.prog (FSof fsI) c10m := codeP_sound (by kernel_rfl)
theorem codeP10n : CodeP Try.prog (FSof fsI) c10n := codeP_sound (by kernel_rfl)
theorem codeP10r : CodeP Try.prog (FSof fsI) c10r := codeP_sound (by kernel_rfl)
theorem Kept.cell {w w' : World} (k : Kept w w') {a : Addr} {v : Value} (hc : w.cell? a = some v) : w'.cell? a = some v :=
  (World.cell?_of_block (k.block a.block (World.block_lt_of_cell? w _ hc))).trans hc
theorem New.keptB {w w' : World} (h : New w w') : Kept w w' := h.kept0 (Same.refl w)
theorem PolyAt.keptC {w w' : World} {ao : Option Addr} {l : Pts} (h : PolyAt w ao l) (k : Kept w w') : PolyAt w' ao l := fun h0 => by
  obtain ⟨g, off, h1, h2, h3⟩ := h h0
  exact ⟨g, off, h1, h2.heap (k.block g h3), Nat.lt_of_lt_of_le h3 k.size⟩
/-- Numbers in a row that may be nil. -/
def NumsR (w : World) (ao : Option Addr) (xs : List Nat) : Prop := 0 < xs.length → ∃ g, ao = some ⟨g, 0, none⟩ ∧ ∀ (i x : Nat), xs[i]? = some x → w.cell? ⟨g, i, none⟩ = some (.int .i64 (x : Int))
/-- What lies in memory: the point, the list, the numbers of its corners. -/
structure K10 (px py : Int) (bp : Nat) (la ha : Option Addr) (out R : Pts) (w : World) : Prop where
  p0 : w.cell? ⟨bp, 0, none⟩ = some (.int .i64 px)
  p1 : w.cell? ⟨bp, 1, none⟩ = some (.int .i64 py)
  l : PolyAt w la out
  h : NumsR w ha (R.map (num out))
theorem K10.kept {px py : Int} {bp : Nat} {la ha : Option Addr} {out R : Pts} {w w' : World} (h : K10 px py bp la ha out R w) (k : Kept w w') : K10 px py bp la ha out R w' :=
  ⟨k.cell h.p0, k.cell h.p1, h.l.keptC k, fun h0 => let ⟨g, h1, h2⟩ := h.h h0; ⟨g, h1, fun i x hx => k.cell (h2 i x hx)⟩⟩
theorem pushP {w wr : World} {k : Nat} {v : Value} {xs : List Value} (hn : New w wr) (ho : wr.ownsRow w.heap.size 23 2 v k xs) (x y : Int) (hk : k ≤ 1000000) :
    ∃ vk wk, (Builtin.append_ #[28, 28] 28 #[v, .slice (some ⟨wr.heap.size, 0, none⟩) 1 1]).run Try.prog (wr.alloc (.cells #[.int .i64 x, .int .i64 y] 23)) = .ok vk wk ∧ Hid (New w wk ∧ wk.ownsRow w.heap.size 23 2 vk (k + 1) (xs ++ [.int .i64 x, .int .i64 y])) := by
  obtain ⟨i0, hi0, hz0, hz1, hz2⟩ := info_parts Try.info23
  obtain ⟨vk, wk, k1, k2, k3, k4⟩ := run_append_own (P := Try.prog) (wr.alloc (.cells #[.int .i64 x, .int .i64 y] 23)) w.heap.size 28 28 23 i0 _ 2 16 Try.underlying28 hi0 hz0 hz1 hz2 rfl (by omega) v k xs (ho.alloc _) ⟨wr.heap.size, 0, none⟩ 1 1 [.int .i64 x, .int .i64 y] rfl
    (World.news_of_block (cs := #[.int .i64 x, .int .i64 y]) (t := 23) (fr := (0, 0)) (heap_alloc_new wr _)) (by simp [Value.oneCell']) (by unfold maxLen; omega) (by omega) (by have := hn.size; simp; omega)
  refine ⟨vk, wk, k1, (hn.alloc' _).trans k3 fun g hg => ?_, k2⟩
  rcases Nat.lt_or_ge g w.heap.size with h1 | h1
  · exact absurd hg.symm (own_ne ho h1)
  · exact h1
theorem flat_take {R : Pts} {k : Nat} {x : Pt} (h : R[k]? = some x) : flatP (R.take (k + 1)) = flatP (R.take k) ++ [.int .i64 x.1, .int .i64 x.2] := by
  rw [List.take_add_one, h, flatP_append]
  rfl
/-- Behind the test. -/
def QP10 (rv : Value) (px py : Int) (bp : Nat) (la ha : Option Addr) (lcap hcap n m : Nat) (t24 t25 t26 t27 t28 t29 t30 t31 : Value) (F : World → Prop) (a : Act) (w : World) : Prop :=
  ∃ t32 t33 t34 t35 t36 t37 t38 t39 t40 t41 t42 t43 t44 t45 t46, a = { tmps := #[rv, .agg #[.int .i64 px, .int .i64 py], undef, .pointer (some ⟨bp, 0, none⟩), .bool false, .bool true, .slice la m lcap, .slice ha n hcap, .int .i64 0, undef, undef, undef, undef, undef, undef, undef, undef, undef, undef, undef, undef, undef, undef, undef, t24, t25, t26, t27, t28, t29, t30, t31, t32, t33, t34, t35, t36, t37, t38, t39, t40, t41, t42, t43, t44, t45, t46, undef, undef, undef, undef, undef, undef, undef, undef, undef, undef, undef, undef, undef, undef, undef, undef, undef, undef, undef, undef, undef, undef, undef, undef, undef, undef, undef, undef, undef, undef, undef, undef, undef, undef, undef, undef, undef, undef, undef, undef, undef, undef, undef, undef, undef, undef, undef, undef, undef, undef, undef, undef, undef, undef, undef, undef, undef, undef, undef, undef, undef, undef, undef, undef, undef, undef, undef, undef, undef, undef, undef, undef, undef, undef, undef, undef, undef, undef, undef, undef, undef, undef, undef, undef, undef, undef, undef, undef, undef, undef, undef, undef, undef, undef, undef, undef, undef, undef, undef, undef, undef, undef, undef, undef, undef, undef, undef, undef, undef, undef, undef, undef, undef, undef, undef, undef, undef, undef, undef, undef, undef, undef, undef, undef, undef, undef, undef, undef, undef, undef, undef, undef, undef, undef, undef, undef], defers := [] } ∧ F w
set_option maxHeartbeats 1600000 in
theorem seg10p (rv : Value) (px py : Int) (bp : Nat) (la ha : Option Addr) (lcap hcap n m : Nat) (w : World) (hmn : m = 0 ↔ n = 0) (F : World → Prop) (hF : F w) (t24 t25 t26 t27 t28 t29 t30 t31 : Value) :
    c10p.wp Try.prog (fun e a w' => e = .normal ∧ QP10 rv px py bp la ha lcap hcap n m t24 t25 t26 t27 t28 t29 t30 t31 F a w') { tmps := #[rv, .agg #[.int .i64 px, .int .i64 py], undef, .pointer (some ⟨bp, 0, none⟩), .bool false, .bool true, .slice la m lcap, .slice ha n hcap, .int .i64 0, undef, undef, undef, undef, undef, undef, undef, undef, undef, undef, undef, undef, undef, undef, undef, t24, t25, t26, t27, t28, t29, t30, t31, undef, undef, undef, undef, undef, undef, undef, undef, undef, undef, undef, undef, undef, undef, undef, undef, undef, undef, undef, undef, undef, undef, undef, undef, undef, undef, undef, undef, undef, undef, undef, undef, undef, undef, undef, undef, undef, undef, undef, undef, undef, undef, undef, undef, undef, undef, undef, undef, undef, undef, undef, undef, undef, undef, undef, undef, undef, undef, undef, undef, undef, undef, undef, undef, undef, undef, undef, undef, undef, undef, undef, undef, undef, undef, undef, undef, undef, undef, undef, undef, undef, undef, undef, undef, undef, undef, undef, undef, undef, undef, undef, undef, undef, undef, undef, undef, undef, undef, undef, undef, undef, undef, undef, undef, undef, undef, undef, undef, undef, undef, undef, undef, undef, undef, undef, undef, undef, undef, undef, undef, undef, undef, undef, undef, undef, undef, undef, undef, undef, undef, undef, undef, undef, undef, undef, undef, undef, undef, undef, undef, undef, undef, undef, undef, undef, undef, undef, undef, undef, undef, undef], defers := [] } w := by
  simp only [c10p, c10a, Try.f10]
  have HF : Hid (F w) := hF
  clear hF
  by_cases h0 : m = 0
  · have h1 := hmn.1 h0
    subst h0 h1
    clear hmn
    go_wp2_with fail
    exact ⟨_, _, _, _, _, _, _, _, _, _, _, _, _, _, _, rfl, HF.out⟩
  · have h1 : (0 : Int) < (m : Int) := by omega
    have h2 : (0 : Int) < (n : Int) := by have : n ≠ 0 := fun e => h0 (hmn.2 e); omega
    have h3 : decide (0 < m) = true := decide_eq_true (by omega)
    have h4 : decide (0 < n) = true := decide_eq_true (by omega)
    clear hmn
    go_wp2_with fail
    exact ⟨_, _, _, _, _, _, _, _, _, _, _, _, _, _, _, rfl, HF.out⟩

end Go.Proofs.Ytgeoffpcmkofkaa
/- Convex: its corners. (Made by gen10.py.) -/
namespace Go.Proofs.Ytgeoffpcmkofkaa
open Go Go.Conc Go.RowKit Fl Go.Maps Go.Lib Go.Joins
set_option maxRecDepth 100000
attribute [local go_sem ↓] Go.wp_at_zero Go.wp_at_succ

/-- Behind the first loop. -/
def QL10 (rv : Value) (px py : Int) (bp : Nat) (la ha : Option Addr) (lcap hcap n m : Nat) (t24 t25 t26 t27 t28 t29 t30 t31 t32 t33 t34 t35 t36 t37 t38 t39 t40 t41 t42 t43 t44 t45 t46 : Value) (F : Value → World → Prop) (a : Act) (w : World) : Prop :=
  ∃ cv t4 t10 t47 t48 t49 t50 t51 t52 t53 t54 t55 t56 t57 t58 t59 t60 t61 t62 t63 t64 t65 t66 t67 t68 t69 t70 t71 t72 t73 t74 t75 t76, a = { tmps := #[rv, .agg #[.int .i64 px, .int .i64 py], undef, .pointer (some ⟨bp, 0, none⟩), t4, .bool true, .slice la m lcap, .slice ha n hcap, .int .i64 0, cv, t10, undef, undef, undef, undef, undef, undef, undef, undef, undef, undef, undef, undef, undef, t24, t25, t26, t27, t28, t29, t30, t31, t32, t33, t34, t35, t36, t37, t38, t39, t40, t41, t42, t43, t44, t45, t46, t47, t48, t49, t50, t51, t52, t53, t54, t55, t56, t57, t58, t59, t60, t61, t62, t63, t64, t65, t66, t67, t68, t69, t70, t71, t72, t73, t74, t75, t76, undef, undef, undef, undef, undef, undef, undef, undef, undef, undef, undef, undef, undef, undef, undef, undef, undef, undef, undef, undef, undef, undef, undef, undef, undef, undef, undef, undef, undef, undef, undef, undef, undef, undef, undef, undef, undef, undef, undef, undef, undef, undef, undef, undef, undef, undef, undef, undef, undef, undef, undef, undef, undef, undef, undef, undef, undef, undef, undef, undef, undef, undef, undef, undef, undef, undef, undef, undef, undef, undef, undef, undef, undef, undef, undef, undef, undef, undef, undef, undef, undef, undef, undef, undef, undef, undef, undef, undef, undef, undef, undef, undef, undef, undef, undef, undef, undef, undef, undef, undef, undef, undef, undef, undef, undef, undef], defers := [] } ∧ F cv w
set_option maxHeartbeats 3200000 in
theorem loop10 (rv : Value) (px py : Int) (bp : Nat) (la ha : Option Addr) (lcap hcap n m : Nat) (out R : Pts) (w : World) (hK : K10 px py bp la ha out R w) (hm : out.length = m) (hn : R.length = n) (h40 : m ≤ 40) (hn40 : n ≤ 40) (hsub : ∀ x ∈ R, x ∈ out) (F : Value → World → Prop)
    (hF : ∀ cv w', New w w' → w'.ownsRow w.heap.size 23 2 cv n (flatP R) → F cv w') (t24 t25 t26 t27 t28 t29 t30 t31 t32 t33 t34 t35 t36 t37 t38 t39 t40 t41 t42 t43 t44 t45 t46 : Value) :
    c10l.wp Try.prog (fun e a w' => e = .normal ∧ QL10 rv px py bp la ha lcap hcap n m t24 t25 t26 t27 t28 t29 t30 t31 t32 t33 t34 t35 t36 t37 t38 t39 t40 t41 t42 t43 t44 t45 t46 F a w') { tmps := #[rv, .agg #[.int .i64 px, .int .i64 py], undef, .pointer (some ⟨bp, 0, none⟩), .bool false, .bool true, .slice la m lcap, .slice ha n hcap, .int .i64 0, .slice none 0 0, undef, undef, undef, undef, undef, undef, undef, undef, undef, undef, undef, undef, undef, undef, t24, t25, t26, t27, t28, t29, t30, t31, t32, t33, t34, t35, t36, t37, t38, t39, t40, t41, t42, t43, t44, t45, t46, undef, undef, undef, undef, undef, undef, undef, undef, undef, undef, undef, undef, undef, undef, undef, undef, undef, undef, undef, undef, undef, undef, undef, undef, undef, undef, undef, undef, undef, undef, undef, undef, undef, undef, undef, undef, undef, undef, undef, undef, undef, undef, undef, undef, undef, undef, undef, undef, undef, undef, undef, undef, undef, undef, undef, undef, undef, undef, undef, undef, undef, undef, undef, undef, undef, undef, undef, undef, undef, undef, undef, undef, undef, undef, undef, undef, undef, undef, undef, undef, undef, undef, undef, undef, undef, undef, undef, undef, undef, undef, undef, undef, undef, undef, undef, undef, undef, undef, undef, undef, undef, undef, undef, undef, undef, undef, undef, undef, undef, undef, undef, undef, undef, undef, undef, undef, undef, undef, undef, undef, undef, undef, undef, undef, undef, undef, undef, undef, undef, undef, undef, undef, undef, undef, undef, undef], defers := [] } w := by
  simp only [c10l, c10b, c10a, Try.f10]
  have HK : Hid (K10 px py bp la ha out R w ∧ out.length = m ∧ R.length = n ∧ ∀ x ∈ R, x ∈ out) := ⟨hK, hm, hn, hsub⟩
  have HF : Hid (∀ cv w', New w w' → w'.ownsRow w.heap.size 23 2 cv n (flatP R) → F cv w') := hF
  clear hK hm hn hsub hF
  go_wp2_with fail
  go_loopw [9, 10] (fun v i wr => ∃ k : Nat, i = .int .i64 (k : Int) ∧ k ≤ n ∧ Hid (New w wr ∧ wr.ownsRow w.heap.size 23 2 v k (flatP (R.take k)))) (fun _ i _ => n - (intOf i).toNat)
  case atStart => exact ⟨0, rfl, Nat.zero_le _, New.refl _, World.ownsRow_nil _ _ _ _⟩
  case round =>
    obtain ⟨k, rfl, hk, H⟩ := hrel
    rcases Nat.lt_or_ge k n with hk' | hk'
    · obtain ⟨x, hx⟩ : ∃ x, R[k]? = some x := ⟨_, List.getElem?_eq_getElem (by rw [HK.out.2.2.1]; exact hk')⟩
      have hxl := HK.out.2.2.2 x (List.mem_of_getElem? hx)
      obtain ⟨j, hj⟩ : ∃ j, j = num out x := ⟨_, rfl⟩
      have hjl : j < m := by rw [hj, ← HK.out.2.1]; exact num_lt hxl
      have hjx : out[j]? = some x := by rw [hj]; exact (num_of hxl).1.here
      obtain ⟨gh, eh, fh⟩ := HK.out.1.h (by rw [List.length_map, HK.out.2.2.1]; omega)
      obtain ⟨gl, offl, el, fl, gll⟩ := HK.out.1.l (by rw [HK.out.2.1]; omega)
      have HE : Hid (R[k]? = some x) := hx
      have x0 : wr.cell? ⟨gh, k, none⟩ = some (.int .i64 (j : Int)) := H.out.1.kept' (fh k j (by rw [List.getElem?_map, hx, hj]; rfl))
      have hjo : j < out.length := by rw [HK.out.2.1]; exact hjl
      have l0 := (fl.kept gll H.out.1 j hjo).1
      have l1 := (fl.kept gll H.out.1 j hjo).2
      rw [show out[j] = x from (List.getElem?_eq_some_iff.1 hjx).2] at l0 l1
      obtain ⟨vk, wk, k1, R1⟩ := pushP H.out.1 H.out.2 x.1 x.2 (by omega)
      have HR : Hid (New w wk ∧ wk.ownsRow w.heap.size 23 2 vk (k + 1) (flatP (R.take (k + 1)))) := ⟨R1.out.1, by rw [flat_take HE.out]; exact R1.out.2⟩
      clear R1 fh fl hx hj hjx hxl hjo
      subst eh el
      have i0 : (0 : Int) ≤ (k : Int) := by omega
      have i1 : (k : Int) < (n : Int) := by omega
      have i2 : (0 : Int) ≤ (j : Int) := by omega
      have i3 : (j : Int) < (m : Int) := by omega
      have i4 : ¬(j : Int) < 0 := by omega
      have i5 : ¬(m : Int) ≤ (j : Int) := by omega
      have i6 : decide ((j : Int) < 0) = false := decide_eq_false i4
      have i7 : decide ((m : Int) ≤ (j : Int)) = false := decide_eq_false i5
      have hw1 : IntKind.i64.wrap ((k : Int) + 1) = (k : Int) + 1 := by rw [IntKind.wrap_i64]; omega
      go_wp2_with (first | (at_builtin; refine Go.Lib.wpList_append_run _ rfl _ _ 28 28 rfl _ _ rfl rfl vk wk k1 ?_) | go_in)
      go_roundw
      case rel => exact ⟨k + 1, by go_num, hk', HR⟩
      case measure => simp [intOf]; omega
    · have e : k = n := by omega
      subst e
      go_wp2_with fail
      refine ⟨_, _, _, _, _, _, _, _, _, _, _, _, _, _, _, _, _, _, _, _, _, _, _, _, _, _, _, _, _, _, _, _, _, rfl, HF.out _ _ H.out.1 ?_⟩
      have := H.out.2
      rwa [List.take_of_length_le (by rw [HK.out.2.2.1]; exact Nat.le_refl _)] at this

end Go.Proofs.Ytgeoffpcmkofkaa
/- Convex: its point. (Made by gen10.py.) -/
namespace Go.Proofs.Ytgeoffpcmkofkaa
open Go Go.Conc Go.RowKit Fl Go.Maps Go.Lib Go.Joins
set_option maxRecDepth 100000
attribute [local go_sem ↓] Go.wp_at_zero Go.wp_at_succ

theorem two_keep {w w' : World} {b : Nat} {x y : Value} (k : New w w') (h : w.cell? ⟨b, 0, none⟩ = some x ∧ w.cell? ⟨b, 1, none⟩ = some y) : w'.cell? ⟨b, 0, none⟩ = some x ∧ w'.cell? ⟨b, 1, none⟩ = some y := ⟨k.kept' h.1, k.kept' h.2⟩
theorem two_set {w : World} {b b' i j : Nat} {x y u v : Value} (hne : b ≠ b') (h : w.cell? ⟨b, 0, none⟩ = some x ∧ w.cell? ⟨b, 1, none⟩ = some y) : ((w.setCell ⟨b', i, none⟩ u).setCell ⟨b', j, none⟩ v).cell? ⟨b, 0, none⟩ = some x ∧ ((w.setCell ⟨b', i, none⟩ u).setCell ⟨b', j, none⟩ v).cell? ⟨b, 1, none⟩ = some y := by
  rw [set_other hne, set_other hne, set_other hne, set_other hne]
  exact h
theorem set_pair {w wA w1 : World} {r1 r2 : Int} (hA : wA.heap[w.heap.size]? = some (.cells #[.int .i64 0, .int .i64 0] 23 (0, 0))) (h : New wA w1) : ((w1.setCell ⟨w.heap.size, 0, none⟩ (.int .i64 r1)).setCell ⟨w.heap.size, 1, none⟩ (.int .i64 r2)).cell? ⟨w.heap.size, 0, none⟩ = some (.int .i64 r1) ∧ ((w1.setCell ⟨w.heap.size, 0, none⟩ (.int .i64 r1)).setCell ⟨w.heap.size, 1, none⟩ (.int .i64 r2)).cell? ⟨w.heap.size, 1, none⟩ = some (.int .i64 r2) := by
  have h1 : w1.heap[w.heap.size]? = some (.cells #[.int .i64 0, .int .i64 0] 23 (0, 0)) := by rw [h.block _ (Array.getElem?_eq_some_iff.1 hA).1 (by simp)]; exact hA
  have h2 := pair_set1 (x := .int .i64 r1) (y := .int .i64 0) (u := .int .i64 r2) (pair_set0 (u := .int .i64 r1) h1)
  exact ⟨pair_cell0 h2, pair_cell1 h2⟩
def QQ10 (rv : Value) (px py : Int) (bp : Nat) (la ha : Option Addr) (lcap hcap n m : Nat) (cv : Value) (t4 t10 t24 t25 t26 t27 t28 t29 t30 t31 t32 t33 t34 t35 t36 t37 t38 t39 t40 t41 t42 t43 t44 t45 t46 t47 t48 t49 t50 t51 t52 t53 t54 t55 t56 t57 t58 t59 t60 t61 t62 t63 t64 t65 t66 t67 t68 t69 t70 t71 t72 t73 t74 t75 t76 t77 t78 : Value) (F : Nat → Int → Int → World → Prop) (a : Act) (w : World) : Prop :=
  ∃ bq qx qy t79 t80 t81 t82 t83 t84 t85, a = { tmps := #[rv, .agg #[.int .i64 px, .int .i64 py], undef, .pointer (some ⟨bp, 0, none⟩), t4, .bool true, .slice la m lcap, .slice ha n hcap, .int .i64 0, cv, t10, .int .i64 (n : Int), .pointer (some ⟨bq, 0, none⟩), undef, undef, undef, undef, undef, undef, undef, undef, undef, undef, undef, t24, t25, t26, t27, t28, t29, t30, t31, t32, t33, t34, t35, t36, t37, t38, t39, t40, t41, t42, t43, t44, t45, t46, t47, t48, t49, t50, t51, t52, t53, t54, t55, t56, t57, t58, t59, t60, t61, t62, t63, t64, t65, t66, t67, t68, t69, t70, t71, t72, t73, t74, t75, t76, t77, t78, t79, t80, t81, t82, t83, t84, t85, undef, undef, undef, undef, undef, undef, undef, undef, undef, undef, undef, undef, undef, undef, undef, undef, undef, undef, undef, undef, undef, undef, undef, undef, undef, undef, undef, undef, undef, undef, undef, undef, undef, undef, undef, undef, undef, undef, undef, undef, undef, undef, undef, undef, undef, undef, undef, undef, undef, undef, undef, undef, undef, undef, undef, undef, undef, undef, undef, undef, undef, undef, undef, undef, undef, undef, undef, undef, undef, undef, undef, undef, undef, undef, undef, undef, undef, undef, undef, undef, undef, undef, undef, undef, undef, undef, undef, undef, undef, undef, undef, undef, undef, undef, undef, undef, undef], defers := [] } ∧ F bq qx qy w
set_option maxHeartbeats 3200000 in
theorem seg10q (rv : Value) (px py : Int) (bp : Nat) (la ha : Option Addr) (lcap hcap n m : Nat) (cv : Value) (w : World) (h0 : w.cell? ⟨bp, 0, none⟩ = some (.int .i64 px)) (h1 : w.cell? ⟨bp, 1, none⟩ = some (.int .i64 py)) (hx1 : -9223372036854775808 ≤ px) (hx2 : px < 9223372036854775808) (hy1 : -9223372036854775808 ≤ py) (hy2 : py < 9223372036854775808)
    (F : Nat → Int → Int → World → Prop) (hF : ∀ bq qx qy w', New w w' → Cd qx → Cd qy → w'.cell? ⟨bq, 0, none⟩ = some (.int .i64 qx) → w'.cell? ⟨bq, 1, none⟩ = some (.int .i64 qy) → F bq qx qy w') (t4 t10 t24 t25 t26 t27 t28 t29 t30 t31 t32 t33 t34 t35 t36 t37 t38 t39 t40 t41 t42 t43 t44 t45 t46 t47 t48 t49 t50 t51 t52 t53 t54 t55 t56 t57 t58 t59 t60 t61 t62 t63 t64 t65 t66 t67 t68 t69 t70 t71 t72 t73 t74 t75 t76 t77 t78 : Value) :
    c10q.wp Try.prog (fun e a w' => e = .normal ∧ QQ10 rv px py bp la ha lcap hcap n m cv t4 t10 t24 t25 t26 t27 t28 t29 t30 t31 t32 t33 t34 t35 t36 t37 t38 t39 t40 t41 t42 t43 t44 t45 t46 t47 t48 t49 t50 t51 t52 t53 t54 t55 t56 t57 t58 t59 t60 t61 t62 t63 t64 t65 t66 t67 t68 t69 t70 t71 t72 t73 t74 t75 t76 t77 t78 F a w') { tmps := #[rv, .agg #[.int .i64 px, .int .i64 py], undef, .pointer (some ⟨bp, 0, none⟩), t4, .bool true, .slice la m lcap, .slice ha n hcap, .int .i64 0, cv, t10, .int .i64 (n : Int), undef, undef, undef, undef, undef, undef, undef, undef, undef, undef, undef, undef, t24, t25, t26, t27, t28, t29, t30, t31, t32, t33, t34, t35, t36, t37, t38, t39, t40, t41, t42, t43, t44, t45, t46, t47, t48, t49, t50, t51, t52, t53, t54, t55, t56, t57, t58, t59, t60, t61, t62, t63, t64, t65, t66, t67, t68, t69, t70, t71, t72, t73, t74, t75, t76, t77, t78, undef, undef, undef, undef, undef, undef, undef, undef, undef, undef, undef, undef, undef, undef, undef, undef, undef, undef, undef, undef, undef, undef, undef, undef, undef, undef, undef, undef, undef, undef, undef, undef, undef, undef, undef, undef, undef, undef, undef, undef, undef, undef, undef, undef, undef, undef, undef, undef, undef, undef, undef, undef, undef, undef, undef, undef, undef, undef, undef, undef, undef, undef, undef, undef, undef, undef, undef, undef, undef, undef, undef, undef, undef, undef, undef, undef, undef, undef, undef, undef, undef, undef, undef, undef, undef, undef, undef, undef, undef, undef, undef, undef, undef, undef, undef, undef, undef, undef, undef, undef, undef, undef, undef, undef], defers := [] } w := by
  simp only [c10q, c10c, c10b, c10a, Try.f10]
  have HF : Hid (∀ bq qx qy w', New w w' → Cd qx → Cd qy → w'.cell? ⟨bq, 0, none⟩ = some (.int .i64 qx) → w'.cell? ⟨bq, 1, none⟩ = some (.int .i64 qy) → F bq qx qy w') := hF
  have HP : Hid (w.cell? ⟨bp, 0, none⟩ = some (.int .i64 px) ∧ w.cell? ⟨bp, 1, none⟩ = some (.int .i64 py)) := ⟨h0, h1⟩
  clear hF
  have HB : Hid (bp < w.heap.size) := World.block_lt_of_cell? w ⟨bp, 0, none⟩ h0
  have F1 : Hid (0 ≤ n) := Nat.zero_le _
  have HW : Hid (New w w.drew) := (New.refl _).dr
  go_wp2_with fail
  go_region_held3 (fun V => V.cell? ⟨bp, 0, none⟩ = some (.int .i64 px) ∧ V.cell? ⟨bp, 1, none⟩ = some (.int .i64 py))
    (first | exact ⟨HW.out.kept' HP.out.1, HW.out.kept' HP.out.2⟩ | exact two_keep H1.out (by assumption) | exact two_keep (New.alloc _ _) (by assumption) | exact two_keep ((HW.out.trans' H1.out).alloc' _) HP.out | exact two_keep ((HW.out.alloc' _).trans' H1.out) HP.out | exact two_set (by have := HB.out; have := H1.out.size; simp at *; omega) (by assumption) | exact two_set (by have := HB.out; simp at *; omega) (by assumption) | go_keep)
    (first
      | (go_at_call 35; clear F1; refine (fit_any px _ hx1 hx2).mono ?_; rintro e wf1 ⟨r1, rfl, HC1, rfl⟩)
      | (go_at_call 35; refine (fit_any py _ hy1 hy2).mono ?_; rintro e wf2 ⟨r2, rfl, HC2, rfl⟩)
      | (go_at_call 34; refine (at_any r1 r2 _).mono ?_; rintro e w1 ⟨rfl, H1⟩; have rr := H1.out.rule; have rf := H1.out.frule))
  all_goals first
    | exact ⟨rfl, _, _, _, _, _, _, _, _, _, _, rfl, HF.out _ _ _ _ ((HW.out.trans' H1.out).alloc' _) HC1.out HC2.out (by go_simp) (by go_simp)⟩
    | exact ⟨rfl, _, _, _, _, _, _, _, _, _, _, rfl, HF.out _ _ _ _ (((((New.alloc w _).dr).trans' H1.out).set (Nat.le_refl _) _).set (Nat.le_refl _) _) HC1.out HC2.out (set_pair (heap_alloc_new w _) ((New.refl _).dr.trans' H1.out)).1 (set_pair (heap_alloc_new w _) ((New.refl _).dr.trans' H1.out)).2⟩

end Go.Proofs.Ytgeoffpcmkofkaa
/- Convex: its sides. (Made by gen10.py.) -/
namespace Go.Proofs.Ytgeoffpcmkofkaa
open Go Go.Conc Go.RowKit Fl Go.Maps Go.Lib Go.Joins
set_option maxRecDepth 100000
attribute [local go_sem ↓] Go.wp_at_zero Go.wp_at_succ

/-- q lies left of the first k sides. -/
def leftB (R : Pts) (n : Nat) (q : Pt) (k : Nat) : Bool := decide (∀ i, i < k → 0 ≤ D (ptAt R i) (ptAt R ((i + 1) % n)) q)
theorem leftB_succ (R : Pts) (n : Nat) (q : Pt) (k : Nat) : leftB R n q (k + 1) = (leftB R n q k && decide (0 ≤ D (ptAt R k) (ptAt R ((k + 1) % n)) q)) := by
  unfold leftB
  rw [← Bool.decide_and]
  apply decide_eq_decide.2
  constructor
  · exact fun h => ⟨fun i hi => h i (by omega), h k (by omega)⟩
  · rintro ⟨h1, h2⟩ i hi
    by_cases e : i = k
    · rw [e]; exact h2
    · exact h1 i (by omega)
theorem okB3 {a b c : Pt} (ha : CdP a) (hb : CdP b) (hc : CdP c) : okB [(a.1, a.2), (b.1, b.2), (c.1, c.2)] = true := by
  simp [okB, cdB_iff.2 ha.1, cdB_iff.2 ha.2, cdB_iff.2 hb.1, cdB_iff.2 hb.2, cdB_iff.2 hc.1, cdB_iff.2 hc.2]
theorem kside_is (a b c : Pt) (s : Int) (w : World) (ha : CdP a) (hb : CdP b) (hc : CdP c) (hs : sgn (D a b c) = s) :
    Calls Try.prog 18 #[.agg #[.int .i64 a.1, .int .i64 a.2], .agg #[.int .i64 b.1, .int .i64 b.2], .agg #[.int .i64 c.1, .int .i64 c.2]] w fun e w' => e = .returned (.int .i64 s) ∧ Hid (New w w') := by
  rw [← hs]
  exact kside_any a.1 a.2 b.1 b.2 c.1 c.2 w (okB3 ha hb hc)
theorem behindN {w w' : World} {g off i : Nat} {x : Pt} (h : w.cell? ⟨g, off + i * 2, none⟩ = some (.int .i64 x.1) ∧ w.cell? ⟨g, off + i * 2 + 1, none⟩ = some (.int .i64 x.2)) (k : New w w') : w'.cell? ⟨g, off + i * 2, none⟩ = some (.int .i64 x.1) ∧ w'.cell? ⟨g, off + i * 2 + 1, none⟩ = some (.int .i64 x.2) := ⟨k.kept' h.1, k.kept' h.2⟩
def QM10 (rv : Value) (px py : Int) (bp : Nat) (la ha : Option Addr) (lcap hcap n m : Nat) (ca : Option Addr) (ccap bq : Nat) (t10 t24 t25 t26 t27 t28 t29 t30 t31 t32 t33 t34 t35 t36 t37 t38 t39 t40 t41 t42 t43 t44 t45 t46 t47 t48 t49 t50 t51 t52 t53 t54 t55 t56 t57 t58 t59 t60 t61 t62 t63 t64 t65 t66 t67 t68 t69 t70 t71 t72 t73 t74 t75 t76 t77 t78 t79 t80 t81 t82 t83 t84 t85 : Value) (F : Bool → World → Prop) (a : Act) (w : World) : Prop :=
  ∃ b t4 t14 t15 t16 t17 t18 t86 t87 t88 t89 t90 t91 t92 t93 t94 t95 t96 t97 t98 t99 t100 t101 t102 t103 t104 t105 t106 t107 t108 t109 t110 t111 t112 t113 t114 t115 t116 t117 t118 t119 t120 t121 t122 t123 t124 t125 t126 t127 t128 t129 t130 t131 t132 t133 t134 t135 t136 t137 t138 t139 t140 t141 t142 t143, a = { tmps := #[rv, .agg #[.int .i64 px, .int .i64 py], undef, .pointer (some ⟨bp, 0, none⟩), t4, .bool true, .slice la m lcap, .slice ha n hcap, .int .i64 0, .slice ca n ccap, t10, .int .i64 (n : Int), .pointer (some ⟨bq, 0, none⟩), .bool b, t14, t15, t16, t17, t18, undef, undef, undef, undef, undef, t24, t25, t26, t27, t28, t29, t30, t31, t32, t33, t34, t35, t36, t37, t38, t39, t40, t41, t42, t43, t44, t45, t46, t47, t48, t49, t50, t51, t52, t53, t54, t55, t56, t57, t58, t59, t60, t61, t62, t63, t64, t65, t66, t67, t68, t69, t70, t71, t72, t73, t74, t75, t76, t77, t78, t79, t80, t81, t82, t83, t84, t85, t86, t87, t88, t89, t90, t91, t92, t93, t94, t95, t96, t97, t98, t99, t100, t101, t102, t103, t104, t105, t106, t107, t108, t109, t110, t111, t112, t113, t114, t115, t116, t117, t118, t119, t120, t121, t122, t123, t124, t125, t126, t127, t128, t129, t130, t131, t132, t133, t134, t135, t136, t137, t138, t139, t140, t141, t142, t143, undef, undef, undef, undef, undef, undef, undef, undef, undef, undef, undef, undef, undef, undef, undef, undef, undef, undef, undef, undef, undef, undef, undef, undef, undef, undef, undef, undef, undef, undef, undef, undef, undef, undef, undef, undef, undef, undef, undef], defers := [] } ∧ F b w
set_option maxHeartbeats 6400000 in
theorem loop10m (rv : Value) (px py : Int) (bp : Nat) (la ha : Option Addr) (lcap hcap n m : Nat) (ca : Option Addr) (ccap bq : Nat) (qx qy : Int) (out R : Pts) (w : World) (hl : PolyAt w la out) (hC : PolyAt w ca R) (q0 : w.cell? ⟨bq, 0, none⟩ = some (.int .i64 qx)) (q1 : w.cell? ⟨bq, 1, none⟩ = some (.int .i64 qy)) (hm : out.length = m) (hn : R.length = n) (h40 : m ≤ 40) (hn40 : n ≤ 40)
    (hRS : RingSays out R) (hcd : ∀ x ∈ out, CdP x) (hcq : CdP (qx, qy)) (F : Bool → World → Prop) (hF : ∀ b w', New w w' → (3 ≤ n → b = leftB R n (qx, qy) n) → F b w') (t4 t10 t24 t25 t26 t27 t28 t29 t30 t31 t32 t33 t34 t35 t36 t37 t38 t39 t40 t41 t42 t43 t44 t45 t46 t47 t48 t49 t50 t51 t52 t53 t54 t55 t56 t57 t58 t59 t60 t61 t62 t63 t64 t65 t66 t67 t68 t69 t70 t71 t72 t73 t74 t75 t76 t77 t78 t79 t80 t81 t82 t83 t84 t85 : Value) :
    c10m.wp Try.prog (fun e a w' => e = .normal ∧ QM10 rv px py bp la ha lcap hcap n m ca ccap bq t10 t24 t25 t26 t27 t28 t29 t30 t31 t32 t33 t34 t35 t36 t37 t38 t39 t40 t41 t42 t43 t44 t45 t46 t47 t48 t49 t50 t51 t52 t53 t54 t55 t56 t57 t58 t59 t60 t61 t62 t63 t64 t65 t66 t67 t68 t69 t70 t71 t72 t73 t74 t75 t76 t77 t78 t79 t80 t81 t82 t83 t84 t85 F a w') { tmps := #[rv, .agg #[.int .i64 px, .int .i64 py], undef, .pointer (some ⟨bp, 0, none⟩), t4, .bool true, .slice la m lcap, .slice ha n hcap, .int .i64 0, .slice ca n ccap, t10, .int .i64 (n : Int), .pointer (some ⟨bq, 0, none⟩), .bool true, undef, undef, undef, undef, undef, undef, undef, undef, undef, undef, t24, t25, t26, t27, t28, t29, t30, t31, t32, t33, t34, t35, t36, t37, t38, t39, t40, t41, t42, t43, t44, t45, t46, t47, t48, t49, t50, t51, t52, t53, t54, t55, t56, t57, t58, t59, t60, t61, t62, t63, t64, t65, t66, t67, t68, t69, t70, t71, t72, t73, t74, t75, t76, t77, t78, t79, t80, t81, t82, t83, t84, t85, undef, undef, undef, undef, undef, undef, undef, undef, undef, undef, undef, undef, undef, undef, undef, undef, undef, undef, undef, undef, undef, undef, undef, undef, undef, undef, undef, undef, undef, undef, undef, undef, undef, undef, undef, undef, undef, undef, undef, undef, undef, undef, undef, undef, undef, undef, undef, undef, undef, undef, undef, undef, undef, undef, undef, undef, undef, undef, undef, undef, undef, undef, undef, undef, undef, undef, undef, undef, undef, undef, undef, undef, undef, undef, undef, undef, undef, undef, undef, undef, undef, undef, undef, undef, undef, undef, undef, undef, undef, undef, undef, undef, undef, undef, undef, undef, undef], defers := [] } w := by
  simp only [c10m, c10d, c10c, c10b, c10a, Try.f10]
  have HF : Hid (∀ b w', New w w' → (3 ≤ n → b = leftB R n (qx, qy) n) → F b w') := hF
  have HK : Hid (PolyAt w la out ∧ PolyAt w ca R ∧ w.cell? ⟨bq, 0, none⟩ = some (.int .i64 qx) ∧ w.cell? ⟨bq, 1, none⟩ = some (.int .i64 qy) ∧ out.length = m ∧ R.length = n) := ⟨hl, hC, q0, q1, hm, hn⟩
  have HR : Hid (RingSays out R ∧ (∀ x ∈ out, CdP x) ∧ CdP (qx, qy)) := ⟨hRS, hcd, hcq⟩
  have HPt : Hid (∀ i, i < n → ptAt R i ∈ R) := fun i hi => by rw [ptAt_eq (by omega)]; exact List.getElem_mem _
  clear hF hl hC q0 q1 hRS hcd hcq hm hn
  go_wp2_with fail
  go_loopw [13, 14] (fun lv iv wr => ∃ (k : Nat) (b : Bool), lv = .bool b ∧ iv = .int .i64 (k : Int) ∧ k ≤ n ∧ Hid (New w wr ∧ b = leftB R n (qx, qy) k)) (fun _ iv _ => n - (intOf iv).toNat)
  case atStart => exact ⟨0, true, rfl, rfl, Nat.zero_le _, New.refl _, (decide_eq_true fun i hi => by omega).symm⟩
  case round =>
    obtain ⟨k, b, rfl, rfl, hk, H⟩ := hrel
    rcases Nat.lt_or_ge k n with hk' | hk'
    · have i1 : (k : Int) < (n : Int) := by omega
      have i1d : decide ((k : Int) < (n : Int)) = true := decide_eq_true i1
      by_cases h3 : 2 < n
      · have i2 : (2 : Int) < (n : Int) := by omega
        have i2d : decide ((2 : Int) < (n : Int)) = true := decide_eq_true i2
        have n0 : n ≠ 0 := by omega
        obtain ⟨j1, hj1⟩ : ∃ j1, j1 = (k + 1) % n := ⟨_, rfl⟩
        obtain ⟨j2, hj2⟩ : ∃ j2, j2 = (k + 2) % n := ⟨_, rfl⟩
        have hj1l : j1 < n := by rw [hj1]; exact Nat.mod_lt _ (by omega)
        have hj2l : j2 < n := by rw [hj2]; exact Nat.mod_lt _ (by omega)
        obtain ⟨gc, offc, ec, fc, gcl⟩ := HK.out.2.1 (by have := HK.out.2.2.2.2.2; omega)
        obtain ⟨u, hu⟩ : ∃ u, u = ptAt R k := ⟨_, rfl⟩
        obtain ⟨v, hv⟩ : ∃ v, v = ptAt R j1 := ⟨_, rfl⟩
        obtain ⟨z, hz⟩ : ∃ z, z = ptAt R j2 := ⟨_, rfl⟩
        have HU : Hid (u = ptAt R k ∧ v = ptAt R ((k + 1) % n) ∧ CdP u ∧ CdP v ∧ CdP z ∧ sgn (D u v z) = 1 ∧ ∀ x ∈ out, 0 ≤ D u v x) := by
          have e := HK.out.2.2.2.2.2
          have c := fun i hi => HR.out.2.1 _ (HR.out.1.sub _ (HPt.out i hi))
          refine ⟨hu, by rw [hv, hj1], by rw [hu]; exact c k hk', by rw [hv]; exact c j1 hj1l, by rw [hz]; exact c j2 hj2l, ?_, fun x hx => ?_⟩
          · have := HR.out.1.turns (by omega) k (by omega)
            rw [e, ← hj1, ← hj2, ← hu, ← hv, ← hz] at this
            have := sgn_pos.2 this
            rcases sgn_cases (D u v z) with h | h | h <;> omega
          · have := HR.out.1.left (by omega) k (by omega) x hx
            rwa [e, ← hj1, ← hu, ← hv] at this
        have HCc : Hid (∀ V, New wr V → ∀ i, i < n → V.cell? ⟨gc, offc + i * 2, none⟩ = some (.int .i64 (ptAt R i).1) ∧ V.cell? ⟨gc, offc + i * 2 + 1, none⟩ = some (.int .i64 (ptAt R i).2)) := fun V hV i hi => by
          have hi' : i < R.length := by have := HK.out.2.2.2.2.2; omega
          have := fc.kept gcl (H.out.1.trans' hV) i hi'
          rwa [← ptAt_eq hi'] at this
        have u01 := HCc.out wr (New.refl _) k hk'
        rw [← hu] at u01
        obtain ⟨u0, u1⟩ := u01
        have v01 := HCc.out (wr.alloc (.cells #[.int .i64 u.1, .int .i64 u.2] 23)) (New.alloc _ _) j1 hj1l
        rw [← hv] at v01
        obtain ⟨v0, v1⟩ := v01
        have HZ : Hid (∀ V, New wr V → V.cell? ⟨gc, offc + j2 * 2, none⟩ = some (.int .i64 z.1) ∧ V.cell? ⟨gc, offc + j2 * 2 + 1, none⟩ = some (.int .i64 z.2)) := fun V hV => by rw [hz]; exact HCc.out V hV j2 hj2l
        have r1 : ((k : Int) + 1).tmod (n : Int) = (j1 : Int) := by rw [hj1, Int.tmod_eq_emod_of_nonneg (by omega)]; rfl
        have r2 : ((k : Int) + 2).tmod (n : Int) = (j2 : Int) := by rw [hj2, Int.tmod_eq_emod_of_nonneg (by omega)]; rfl
        have w1 : IntKind.i64.wrap ((k : Int) + 1) = (k : Int) + 1 := by rw [IntKind.wrap_i64]; omega
        have w2 : IntKind.i64.wrap ((k : Int) + 2) = (k : Int) + 2 := by rw [IntKind.wrap_i64]; omega
        have w3 : IntKind.i64.wrap (j1 : Int) = (j1 : Int) := by rw [IntKind.wrap_i64]; omega
        have w4 : IntKind.i64.wrap (j2 : Int) = (j2 : Int) := by rw [IntKind.wrap_i64]; omega
        have k0 : (0 : Int) ≤ (k : Int) := by omega
        have a0 : (0 : Int) ≤ (j1 : Int) := by omega
        have a1 : (j1 : Int) < (n : Int) := by omega
        have b0 : (0 : Int) ≤ (j2 : Int) := by omega
        have b1 : (j2 : Int) < (n : Int) := by omega
        clear hu hv hz hj1 hj2 fc
        subst ec
        obtain ⟨wo, rfl⟩ : ∃ wo, wo = wr := ⟨_, rfl⟩
        have HA : Hid (New wo ((wo.alloc (.cells #[.int .i64 u.1, .int .i64 u.2] 23)).alloc (.cells #[.int .i64 v.1, .int .i64 v.2] 23))) := (New.alloc _ _).alloc' _
        have HUV : Hid (∀ V, New ((wo.alloc (.cells #[.int .i64 u.1, .int .i64 u.2] 23)).alloc (.cells #[.int .i64 v.1, .int .i64 v.2] 23)) V → V.cell? ⟨wo.heap.size, 0, none⟩ = some (.int .i64 u.1) ∧ V.cell? ⟨wo.heap.size, 1, none⟩ = some (.int .i64 u.2) ∧ V.cell? ⟨wo.heap.size + 1, 0, none⟩ = some (.int .i64 v.1) ∧ V.cell? ⟨wo.heap.size + 1, 1, none⟩ = some (.int .i64 v.2)) := fun V hV =>
          ⟨hV.kept' (by go_simp), hV.kept' (by go_simp), hV.kept' (by go_simp), hV.kept' (by go_simp)⟩
        go_wp2_with fail
        obtain ⟨wA, hA⟩ : ∃ wA, wA = ((wo.alloc (.cells #[.int .i64 u.1, .int .i64 u.2] 23)).alloc (.cells #[.int .i64 v.1, .int .i64 v.2] 23)) := ⟨_, rfl⟩
        rw [← hA] at HA HUV ⊢
        clear hA u0 u1 v0 v1
        have HW : Hid (New wA wA.drew) := (New.refl _).dr
        go_region_held3 (fun V => V.cell? ⟨wo.heap.size, 0, none⟩ = some (.int .i64 u.1) ∧ V.cell? ⟨wo.heap.size, 1, none⟩ = some (.int .i64 u.2) ∧ V.cell? ⟨wo.heap.size + 1, 0, none⟩ = some (.int .i64 v.1) ∧ V.cell? ⟨wo.heap.size + 1, 1, none⟩ = some (.int .i64 v.2) ∧ V.cell? ⟨gc, offc + j2 * 2, none⟩ = some (.int .i64 z.1) ∧ V.cell? ⟨gc, offc + j2 * 2 + 1, none⟩ = some (.int .i64 z.2))
          (first | (have t := HUV.out _ HW.out; have t2 := HZ.out _ (HA.out.trans' HW.out); exact ⟨t.1, t.2.1, t.2.2.1, t.2.2.2, t2.1, t2.2⟩))
          (first | (go_at_call 18; refine (kside_is u v z 1 _ HU.out.2.2.1 HU.out.2.2.2.1 HU.out.2.2.2.2.1 HU.out.2.2.2.2.2.1).mono ?_; rintro e w3 ⟨rfl, H3⟩; replace HW : Hid (New wA w3) := HW.out.trans' H3.out; clear H3))
        go_wp2_with fail
        go_loopw [17] (fun kv w4 => ∃ j : Nat, kv = .int .i64 (j : Int) ∧ j ≤ m ∧ Hid (New wA w4)) (fun kv _ => m - (intOf kv).toNat)
        case atStart => exact ⟨0, rfl, Nat.zero_le _, HW⟩
        case round =>
          obtain ⟨j, rfl, hj, H4⟩ := hrel
          rcases Nat.lt_or_ge j m with hj' | hj'
          · obtain ⟨x, hx⟩ : ∃ x, out[j]? = some x := ⟨_, List.getElem?_eq_getElem (by have := HK.out.2.2.2.2.1; omega)⟩
            obtain ⟨gl, offl, el, fl, gll⟩ := HK.out.1 (by have := HK.out.2.2.2.2.1; omega)
            have HL : Hid (∀ V, New wA V → V.cell? ⟨gl, offl + j * 2, none⟩ = some (.int .i64 x.1) ∧ V.cell? ⟨gl, offl + j * 2 + 1, none⟩ = some (.int .i64 x.2)) := fun V hV => by
              have hjo : j < out.length := by have := HK.out.2.2.2.2.1; omega
              have := fl.kept gll ((H.out.1.trans' HA.out).trans' hV) j hjo
              rwa [show out[j] = x from (List.getElem?_eq_some_iff.1 hx).2] at this
            have hxm := List.mem_of_getElem? hx
            obtain ⟨s, hs, h01⟩ : ∃ s, sgn (D u v x) = s ∧ (s = 0 ∨ s = 1) := by
              have := HU.out.2.2.2.2.2.2 x hxm
              rcases sgn_cases (D u v x) with h | h | h
              · omega
              · exact ⟨_, rfl, .inl h.2⟩
              · exact ⟨_, rfl, .inr h.2⟩
            have HX : Hid (CdP x ∧ sgn (D u v x) = s) := ⟨HR.out.2.1 x hxm, hs⟩
            clear hx fl hxm hs
            subst el
            have d0 : (0 : Int) ≤ (j : Int) := by omega
            have d1 : (j : Int) < (m : Int) := by omega
            have wj : IntKind.i64.wrap ((j : Int) + 1) = (j : Int) + 1 := by rw [IntKind.wrap_i64]; omega
            have HY : Hid (New wA wr.drew) := H4.out.dr
            go_wp2_with fail
            go_region_held3 (fun V => V.cell? ⟨wo.heap.size, 0, none⟩ = some (.int .i64 u.1) ∧ V.cell? ⟨wo.heap.size, 1, none⟩ = some (.int .i64 u.2) ∧ V.cell? ⟨wo.heap.size + 1, 0, none⟩ = some (.int .i64 v.1) ∧ V.cell? ⟨wo.heap.size + 1, 1, none⟩ = some (.int .i64 v.2) ∧ V.cell? ⟨gl, offl + j * 2, none⟩ = some (.int .i64 x.1) ∧ V.cell? ⟨gl, offl + j * 2 + 1, none⟩ = some (.int .i64 x.2))
              (first | (have t := HUV.out _ HY.out; have t2 := HL.out _ HY.out; exact ⟨t.1, t.2.1, t.2.2.1, t.2.2.2, t2.1, t2.2⟩))
              (first | (go_at_call 18; refine (kside_is u v x s _ HU.out.2.2.1 HU.out.2.2.2.1 HX.out.1 HX.out.2).mono ?_; rintro e w3 ⟨rfl, H3⟩; replace HY : Hid (New wA w3) := HY.out.trans' H3.out; clear H3))
            rcases h01 with rfl | rfl
            · go_wp2_with fail
              go_roundw
              case rel => exact ⟨j + 1, by go_num, hj', HY⟩
              case measure => simp [intOf]; omega
            · go_wp2_with fail
              go_roundw
              case rel => exact ⟨j + 1, by go_num, hj', HY⟩
              case measure => simp [intOf]; omega
          · have e : j = m := by omega
            subst e
            have HS2 : Hid (leftB R n (qx, qy) (k + 1) = (b && decide (0 ≤ D u v (qx, qy)))) := by
              rw [Hid, leftB_succ, ← H.out.2, ← HU.out.1, ← HU.out.2.1]
            cases b with
            | false =>
              go_wp2_with fail
              go_roundw
              case rel => exact ⟨k + 1, false, rfl, by go_num, hk', (H.out.1.trans' HA.out).trans' H4.out, by rw [HS2.out]; rfl⟩
              case measure => simp [intOf]; omega
            | true =>
              obtain ⟨e0, e1, e2, e3⟩ := HUV.out _ H4.out
              have e4 := ((H.out.1.trans' HA.out).trans' H4.out).kept' HK.out.2.2.1
              have e5 := ((H.out.1.trans' HA.out).trans' H4.out).kept' HK.out.2.2.2.1
              obtain ⟨s, hs⟩ : ∃ s, sgn (D u v (qx, qy)) = s := ⟨_, rfl⟩
              have HQ : Hid (sgn (D u v (qx, qy)) = s ∧ leftB R n (qx, qy) (k + 1) = decide (0 ≤ s)) := by
                refine ⟨hs, ?_⟩
                rw [HS2.out, Bool.true_and]
                apply decide_eq_decide.2
                rcases sgn_cases (D u v (qx, qy)) with h | h | h <;> omega
              clear hs
              go_wp2_with fail
              refine (kside_is u v (qx, qy) s _ HU.out.2.2.1 HU.out.2.2.2.1 HR.out.2.2 HQ.out.1).mono ?_
              rintro e w5 ⟨rfl, H5⟩
              clear e0 e1 e2 e3 e4 e5
              go_wp2_with fail
              go_roundw
              case rel => exact ⟨k + 1, decide (0 ≤ s), rfl, by go_num, hk', ((H.out.1.trans' HA.out).trans' H4.out).trans' H5.out, by rw [HQ.out.2]⟩
              case measure => simp [intOf]; omega
      · have i2 : ¬(2 : Int) < (n : Int) := by omega
        have i2d : decide ((2 : Int) < (n : Int)) = false := decide_eq_false i2
        go_wp2_with fail
        exact ⟨_, _, _, _, _, _, _, _, _, _, _, _, _, _, _, _, _, _, _, _, _, _, _, _, _, _, _, _, _, _, _, _, _, _, _, _, _, _, _, _, _, _, _, _, _, _, _, _, _, _, _, _, _, _, _, _, _, _, _, _, _, _, _, _, _, rfl, HF.out _ _ H.out.1 (fun h => by omega)⟩
    · have e : k = n := by omega
      subst e
      go_wp2_with fail
      exact ⟨_, _, _, _, _, _, _, _, _, _, _, _, _, _, _, _, _, _, _, _, _, _, _, _, _, _, _, _, _, _, _, _, _, _, _, _, _, _, _, _, _, _, _, _, _, _, _, _, _, _, _, _, _, _, _, _, _, _, _, _, _, _, _, _, _, rfl, HF.out _ _ H.out.1 (fun _ => H.out.2)⟩

end Go.Proofs.Ytgeoffpcmkofkaa
/- Convex: within its corners. (Made by gen10.py.) -/
namespace Go.Proofs.Ytgeoffpcmkofkaa
open Go Go.Conc Go.RowKit Fl Go.Maps Go.Lib Go.Joins
set_option maxRecDepth 100000
attribute [local go_sem ↓] Go.wp_at_zero Go.wp_at_succ

theorem within_is (ca : Option Addr) (ccap n : Nat) (R : Pts) (x : Pt) (wv : Int) (w : World) (hC : PolyAt w ca R) (hn : R.length = n) (he : errL R = 0) (hx : CdP x) (hw : withinN R x = wv) :
    Calls Try.prog 27 #[.slice ca n ccap, .agg #[.int .i64 x.1, .int .i64 x.2]] w fun e w' => e = .returned (.tuple #[.int .i64 wv, .int .i64 0]) ∧ Hid (New w w') := by
  have h := within_len ca ccap R x.1 x.2 w hC
  have e1 : wErr R (x.1, x.2) = 0 := by
    unfold wErr
    rw [if_pos he, okE]
    have : okB [(x.1, x.2)] = true := by simp [okB, cdB_iff.2 hx.1, cdB_iff.2 hx.2]
    rw [this]
    rfl
  have e2 : wNum R (x.1, x.2) = wv := by
    unfold wNum
    rw [if_pos e1, ← hw]
  rw [hn, e1, e2] at h
  exact h
def QN10 (rv : Value) (px py : Int) (bp : Nat) (la ha : Option Addr) (lcap hcap n m : Nat) (ca : Option Addr) (ccap bq : Nat) (b : Bool) (t10 t14 t15 t16 t17 t18 t24 t25 t26 t27 t28 t29 t30 t31 t32 t33 t34 t35 t36 t37 t38 t39 t40 t41 t42 t43 t44 t45 t46 t47 t48 t49 t50 t51 t52 t53 t54 t55 t56 t57 t58 t59 t60 t61 t62 t63 t64 t65 t66 t67 t68 t69 t70 t71 t72 t73 t74 t75 t76 t77 t78 t79 t80 t81 t82 t83 t84 t85 t86 t87 t88 t89 t90 t91 t92 t93 t94 t95 t96 t97 t98 t99 t100 t101 t102 t103 t104 t105 t106 t107 t108 t109 t110 t111 t112 t113 t114 t115 t116 t117 t118 t119 t120 t121 t122 t123 t124 t125 t126 t127 t128 t129 t130 t131 t132 t133 t134 t135 t136 t137 t138 t139 t140 t141 t142 t143 : Value) (F : World → Prop) (a : Act) (w : World) : Prop :=
  ∃ t4 t19 t20 t21 t144 t145 t146 t147 t148 t149 t150 t151 t152 t153 t154 t155 t156 t157 t158 t159 t160 t161 t162 t163 t164, a = { tmps := #[rv, .agg #[.int .i64 px, .int .i64 py], undef, .pointer (some ⟨bp, 0, none⟩), t4, .bool true, .slice la m lcap, .slice ha n hcap, .int .i64 0, .slice ca n ccap, t10, .int .i64 (n : Int), .pointer (some ⟨bq, 0, none⟩), .bool b, t14, t15, t16, t17, t18, t19, t20, t21, undef, undef, t24, t25, t26, t27, t28, t29, t30, t31, t32, t33, t34, t35, t36, t37, t38, t39, t40, t41, t42, t43, t44, t45, t46, t47, t48, t49, t50, t51, t52, t53, t54, t55, t56, t57, t58, t59, t60, t61, t62, t63, t64, t65, t66, t67, t68, t69, t70, t71, t72, t73, t74, t75, t76, t77, t78, t79, t80, t81, t82, t83, t84, t85, t86, t87, t88, t89, t90, t91, t92, t93, t94, t95, t96, t97, t98, t99, t100, t101, t102, t103, t104, t105, t106, t107, t108, t109, t110, t111, t112, t113, t114, t115, t116, t117, t118, t119, t120, t121, t122, t123, t124, t125, t126, t127, t128, t129, t130, t131, t132, t133, t134, t135, t136, t137, t138, t139, t140, t141, t142, t143, t144, t145, t146, t147, t148, t149, t150, t151, t152, t153, t154, t155, t156, t157, t158, t159, t160, t161, t162, t163, t164, undef, undef, undef, undef, undef, undef, undef, undef, undef, undef, undef, undef, undef, undef, undef, undef, undef, undef], defers := [] } ∧ F w
set_option maxHeartbeats 3200000 in
theorem loop10n (rv : Value) (px py : Int) (bp : Nat) (la ha : Option Addr) (lcap hcap n m : Nat) (ca : Option Addr) (ccap bq : Nat) (b : Bool) (out R : Pts) (w : World) (hl : PolyAt w la out) (hC : PolyAt w ca R) (hm : out.length = m) (hn : R.length = n) (h40 : m ≤ 40) (he : errL R = 0) (hcd : ∀ x ∈ out, CdP x) (hall : ∀ x ∈ out, 0 ≤ withinN R x) (F : World → Prop) (hF : ∀ w', New w w' → F w') (t4 t10 t14 t15 t16 t17 t18 t24 t25 t26 t27 t28 t29 t30 t31 t32 t33 t34 t35 t36 t37 t38 t39 t40 t41 t42 t43 t44 t45 t46 t47 t48 t49 t50 t51 t52 t53 t54 t55 t56 t57 t58 t59 t60 t61 t62 t63 t64 t65 t66 t67 t68 t69 t70 t71 t72 t73 t74 t75 t76 t77 t78 t79 t80 t81 t82 t83 t84 t85 t86 t87 t88 t89 t90 t91 t92 t93 t94 t95 t96 t97 t98 t99 t100 t101 t102 t103 t104 t105 t106 t107 t108 t109 t110 t111 t112 t113 t114 t115 t116 t117 t118 t119 t120 t121 t122 t123 t124 t125 t126 t127 t128 t129 t130 t131 t132 t133 t134 t135 t136 t137 t138 t139 t140 t141 t142 t143 : Value) :
    c10n.wp Try.prog (fun e a w' => e = .normal ∧ QN10 rv px py bp la ha lcap hcap n m ca ccap bq b t10 t14 t15 t16 t17 t18 t24 t25 t26 t27 t28 t29 t30 t31 t32 t33 t34 t35 t36 t37 t38 t39 t40 t41 t42 t43 t44 t45 t46 t47 t48 t49 t50 t51 t52 t53 t54 t55 t56 t57 t58 t59 t60 t61 t62 t63 t64 t65 t66 t67 t68 t69 t70 t71 t72 t73 t74 t75 t76 t77 t78 t79 t80 t81 t82 t83 t84 t85 t86 t87 t88 t89 t90 t91 t92 t93 t94 t95 t96 t97 t98 t99 t100 t101 t102 t103 t104 t105 t106 t107 t108 t109 t110 t111 t112 t113 t114 t115 t116 t117 t118 t119 t120 t121 t122 t123 t124 t125 t126 t127 t128 t129 t130 t131 t132 t133 t134 t135 t136 t137 t138 t139 t140 t141 t142 t143 F a w') { tmps := #[rv, .agg #[.int .i64 px, .int .i64 py], undef, .pointer (some ⟨bp, 0, none⟩), t4, .bool true, .slice la m lcap, .slice ha n hcap, .int .i64 0, .slice ca n ccap, t10, .int .i64 (n : Int), .pointer (some ⟨bq, 0, none⟩), .bool b, t14, t15, t16, t17, t18, undef, undef, undef, undef, undef, t24, t25, t26, t27, t28, t29, t30, t31, t32, t33, t34, t35, t36, t37, t38, t39, t40, t41, t42, t43, t44, t45, t46, t47, t48, t49, t50, t51, t52, t53, t54, t55, t56, t57, t58, t59, t60, t61, t62, t63, t64, t65, t66, t67, t68, t69, t70, t71, t72, t73, t74, t75, t76, t77, t78, t79, t80, t81, t82, t83, t84, t85, t86, t87, t88, t89, t90, t91, t92, t93, t94, t95, t96, t97, t98, t99, t100, t101, t102, t103, t104, t105, t106, t107, t108, t109, t110, t111, t112, t113, t114, t115, t116, t117, t118, t119, t120, t121, t122, t123, t124, t125, t126, t127, t128, t129, t130, t131, t132, t133, t134, t135, t136, t137, t138, t139, t140, t141, t142, t143, undef, undef, undef, undef, undef, undef, undef, undef, undef, undef, undef, undef, undef, undef, undef, undef, undef, undef, undef, undef, undef, undef, undef, undef, undef, undef, undef, undef, undef, undef, undef, undef, undef, undef, undef, undef, undef, undef, undef], defers := [] } w := by
  simp only [c10n, c10e, c10d, c10c, c10b, c10a, Try.f10]
  have HF : Hid (∀ w', New w w' → F w') := hF
  have HK : Hid (PolyAt w la out ∧ PolyAt w ca R ∧ out.length = m ∧ R.length = n ∧ errL R = 0 ∧ (∀ x ∈ out, CdP x) ∧ ∀ x ∈ out, 0 ≤ withinN R x) := ⟨hl, hC, hm, hn, he, hcd, hall⟩
  clear hF hl hC hm hn he hcd hall
  go_wp2_with fail
  go_loopw [19] (fun kv wr => ∃ j : Nat, kv = .int .i64 (j : Int) ∧ j ≤ m ∧ Hid (New w wr)) (fun kv _ => m - (intOf kv).toNat)
  case atStart => exact ⟨0, rfl, Nat.zero_le _, New.refl _⟩
  case round =>
    obtain ⟨j, rfl, hj, H⟩ := hrel
    rcases Nat.lt_or_ge j m with hj' | hj'
    · obtain ⟨x, hx⟩ : ∃ x, out[j]? = some x := ⟨_, List.getElem?_eq_getElem (by have := HK.out.2.2.1; omega)⟩
      obtain ⟨gl, offl, el, fl, gll⟩ := HK.out.1 (by have := HK.out.2.2.1; omega)
      have hxm := List.mem_of_getElem? hx
      have hjo : j < out.length := by have := HK.out.2.2.1; omega
      have l0 := (fl.kept gll H.out j hjo).1
      have l1 := (fl.kept gll H.out j hjo).2
      rw [show out[j] = x from (List.getElem?_eq_some_iff.1 hx).2] at l0 l1
      obtain ⟨wv, hwv⟩ : ∃ wv, withinN R x = wv := ⟨_, rfl⟩
      have h0 : ¬wv < 0 := by have := HK.out.2.2.2.2.2.2 x hxm; omega
      have h0d : decide (wv < 0) = false := decide_eq_false h0
      have HX : Hid (CdP x ∧ withinN R x = wv) := ⟨HK.out.2.2.2.2.2.1 x hxm, hwv⟩
      have d0 : (0 : Int) ≤ (j : Int) := by omega
      have d1 : (j : Int) < (m : Int) := by omega
      have wj : IntKind.i64.wrap ((j : Int) + 1) = (j : Int) + 1 := by rw [IntKind.wrap_i64]; omega
      clear hx fl hxm hjo hwv
      subst el
      go_wp2_with fail
      refine (within_is ca ccap n R x wv _ (HK.out.2.1.keptC H.out.keptB) HK.out.2.2.2.1 HK.out.2.2.2.2.1 HX.out.1 HX.out.2).mono ?_
      rintro e w2 ⟨rfl, H2⟩
      go_wp2_with fail
      go_roundw
      case rel => exact ⟨j + 1, by go_num, hj', H.out.trans' H2.out⟩
      case measure => simp [intOf]; omega
    · have e : j = m := by omega
      subst e
      go_wp2_with fail
      exact ⟨_, _, _, _, _, _, _, _, _, _, _, _, _, _, _, _, _, _, _, _, _, _, _, _, _, rfl, HF.out _ H.out⟩
set_option maxHeartbeats 3200000 in
theorem rest10 (rv : Value) (px py : Int) (bp : Nat) (la ha : Option Addr) (lcap hcap n m : Nat) (ca : Option Addr) (ccap bq : Nat) (qx qy : Int) (b : Bool) (R : Pts) (w : World) (hC : PolyAt w ca R) (hn : R.length = n) (he : errL R = 0) (hcq : CdP (qx, qy)) (q0 : w.cell? ⟨bq, 0, none⟩ = some (.int .i64 qx)) (q1 : w.cell? ⟨bq, 1, none⟩ = some (.int .i64 qy)) (hb : 3 ≤ n → decide (0 ≤ withinN R (qx, qy)) = b) (F : World → Prop) (hF : ∀ w', New w w' → F w') (t4 t10 t14 t15 t16 t17 t18 t19 t20 t21 t24 t25 t26 t27 t28 t29 t30 t31 t32 t33 t34 t35 t36 t37 t38 t39 t40 t41 t42 t43 t44 t45 t46 t47 t48 t49 t50 t51 t52 t53 t54 t55 t56 t57 t58 t59 t60 t61 t62 t63 t64 t65 t66 t67 t68 t69 t70 t71 t72 t73 t74 t75 t76 t77 t78 t79 t80 t81 t82 t83 t84 t85 t86 t87 t88 t89 t90 t91 t92 t93 t94 t95 t96 t97 t98 t99 t100 t101 t102 t103 t104 t105 t106 t107 t108 t109 t110 t111 t112 t113 t114 t115 t116 t117 t118 t119 t120 t121 t122 t123 t124 t125 t126 t127 t128 t129 t130 t131 t132 t133 t134 t135 t136 t137 t138 t139 t140 t141 t142 t143 t144 t145 t146 t147 t148 t149 t150 t151 t152 t153 t154 t155 t156 t157 t158 t159 t160 t161 t162 t163 t164 : Value) :
    c10r.wp Try.prog (fun e a w' => (e = .normal ∨ e = .ret) ∧ a.tmps.getD 4 undef = .bool true ∧ Hid (F w')) { tmps := #[rv, .agg #[.int .i64 px, .int .i64 py], undef, .pointer (some ⟨bp, 0, none⟩), t4, .bool true, .slice la m lcap, .slice ha n hcap, .int .i64 0, .slice ca n ccap, t10, .int .i64 (n : Int), .pointer (some ⟨bq, 0, none⟩), .bool b, t14, t15, t16, t17, t18, t19, t20, t21, undef, undef, t24, t25, t26, t27, t28, t29, t30, t31, t32, t33, t34, t35, t36, t37, t38, t39, t40, t41, t42, t43, t44, t45, t46, t47, t48, t49, t50, t51, t52, t53, t54, t55, t56, t57, t58, t59, t60, t61, t62, t63, t64, t65, t66, t67, t68, t69, t70, t71, t72, t73, t74, t75, t76, t77, t78, t79, t80, t81, t82, t83, t84, t85, t86, t87, t88, t89, t90, t91, t92, t93, t94, t95, t96, t97, t98, t99, t100, t101, t102, t103, t104, t105, t106, t107, t108, t109, t110, t111, t112, t113, t114, t115, t116, t117, t118, t119, t120, t121, t122, t123, t124, t125, t126, t127, t128, t129, t130, t131, t132, t133, t134, t135, t136, t137, t138, t139, t140, t141, t142, t143, t144, t145, t146, t147, t148, t149, t150, t151, t152, t153, t154, t155, t156, t157, t158, t159, t160, t161, t162, t163, t164, undef, undef, undef, undef, undef, undef, undef, undef, undef, undef, undef, undef, undef, undef, undef, undef, undef, undef], defers := [] } w := by
  simp only [c10r, c10e, c10d, c10c, c10b, c10a, Try.f10]
  have HK : Hid (PolyAt w ca R ∧ R.length = n ∧ errL R = 0 ∧ CdP (qx, qy)) := ⟨hC, hn, he, hcq⟩
  obtain ⟨wv, hwv⟩ : ∃ wv, withinN R (qx, qy) = wv := ⟨_, rfl⟩
  rw [hwv] at hb
  have HV : Hid (withinN R (qx, qy) = wv) := hwv
  clear hC hn he hcq hwv
  go_wp2_with fail
  refine (within_is ca ccap n R (qx, qy) wv _ HK.out.1 HK.out.2.1 HK.out.2.2.1 HK.out.2.2.2 HV.out).mono ?_
  rintro e w2 ⟨rfl, H2⟩
  have H3 : Hid (F w2) := hF w2 H2.out
  clear hF H2
  by_cases h3 : n < 3
  · have i1 : (n : Int) < 3 := by omega
    have i1d : decide ((n : Int) < 3) = true := decide_eq_true i1
    clear hb
    go_wp2_with fail
  · have i1 : ¬(n : Int) < 3 := by omega
    have i1d : decide ((n : Int) < 3) = false := decide_eq_false i1
    have hb' := hb (by omega)
    subst hb'
    have hbb : (decide (0 ≤ wv) == decide (0 ≤ wv)) = true := by simp
    clear hb
    go_wp2_with fail

end Go.Proofs.Ytgeoffpcmkofkaa
/- Convex, from its start to its end. (Made by gen10.py.) -/
namespace Go.Proofs.Ytgeoffpcmkofkaa
open Go Go.Conc Go.RowKit Fl Go.Maps Go.Lib Go.Joins
set_option maxRecDepth 100000

theorem A.leave10 {Post : Value → World → Prop} {a : Act} {todo : List Item} {w : World} (hd : a.defers = []) (h2 : a.tmps.getD 4 undef = .bool true) (h : ∀ w', Same w w' → Post (.bool true) w') : A Try.prog Post { (base 10).at a todo with mode := .returning } [] w := by
  refine A.fin (v := .bool true) fun w' hs => ⟨?_, h w' hs⟩
  have hf : Try.prog.funcs[10]? = some Try.f10 := Try.func10
  have hr : (results Try.f10 a.tmps).run Try.prog w' = .ok (.bool true) w' := by simp [results, Try.f10, ← h2]
  have he : (results Try.f10 a.tmps).events Try.prog w' #[] = #[] := by simp [results, Try.f10]
  simp [Conc.G, stepG, unwind, doReturn, Frame.at, show (base 10).kind = .normal from rfl, show (base 10).fn = 10 from rfl, hd, hf, hr, he, seen, GStep.after]
noncomputable def c10g : Code := match c10b with
  | .seq r _ => r
  | _ => .skip
noncomputable def c10u : Code := match c10c with
  | .seq r _ => r
  | _ => .skip
noncomputable def c10v : Code := match c10d with
  | .seq r _ => r
  | _ => .skip
theorem c10a_eq : c10a = .seq c10p c10b := rfl
theorem c10b_eq : c10b = .seq c10g (.seq c10l c10c) := rfl
theorem c10c_eq : c10c = .seq c10u (.seq c10q c10d) := rfl
theorem c10d_eq : c10d = .seq c10v (.seq c10m c10e) := rfl
theorem c10e_eq : c10e = .seq c10n c10r := rfl
theorem fs16 : FSof fsI 16 := by decide
theorem fs17 : FSof fsI 17 := by decide
theorem Same.kept {w w' : World} (h : Same w w') : Kept w w' := (Kept.refl w).same h
theorem own_poly {w : World} {base n : Nat} {v : Value} {l : Pts} (h : w.ownsRow base 23 2 v n (flatP l)) (hn : l.length = n) : ∃ ao cap, v = .slice ao n cap ∧ PolyAt w ao l := by
  subst hn
  rcases h.2 with ⟨e, h0⟩ | ⟨g, cap, cur, e, hb, hg, h1, h2, h3, h4⟩
  · exact ⟨none, 0, by rw [e, h0], fun h => by omega⟩
  · refine ⟨_, cap, e, fun _ => ⟨g, 0, rfl, fun i hi => ?_, (Array.getElem?_eq_some_iff.1 hg).1⟩⟩
    subst e
    have := flatP_get l i hi
    rw [Nat.zero_add]
    exact ⟨(World.ownsRow.cellAt h (i * 2) (by omega)).trans this.1, (World.ownsRow.cellAt h (i * 2 + 1) (by omega)).trans this.2⟩
theorem own_rowL {w : World} {base : Nat} {v : Value} {l : Pts} (h : w.ownsRow base 23 2 v l.length (flatP l)) (hi : AllRow IntCell w v) (hG : GN ≤ base) : RowL w v l := by
  rcases h.2 with ⟨e, h0⟩ | ⟨g, cap, cur, e, hb, hg, h1, h2, h3, h4⟩
  · exact .inl ⟨e, List.eq_nil_of_length_eq_zero h0⟩
  · exact .inr ⟨g, cap, cur, e, h1, hg, hi g (by rw [e]; rfl) cur 23 (0, 0) hg, by omega, PtsIn.row h4⟩
theorem own_nums {w : World} {base : Nat} {v : Value} {xs : List Nat} {ys : List Value} (h : w.ownsRow base 3 1 v ys.length ys) (hy : ys = xs.map fun (n : Nat) => Value.int .i64 (n : Int)) : ∃ ao cap, v = .slice ao xs.length cap ∧ NumsR w ao xs := by
  subst hy
  rw [List.length_map] at h
  rcases ownsRow_forms h with ⟨e, h0⟩ | ⟨g, cap, e⟩
  · exact ⟨none, 0, by rw [e, h0], fun h => by omega⟩
  · refine ⟨_, cap, e, fun _ => ⟨g, rfl, fun i x hx => ?_⟩⟩
    subst e
    have hi := (List.getElem?_eq_some_iff.1 hx).1
    refine (World.ownsRow.cellAt h i (by omega)).trans ?_
    rw [List.getElem?_map, hx]
    rfl

set_option maxHeartbeats 4000000 in
theorem A.cvxE {Post : Value → World → Prop} {W : World} (rv : Value) (px py : Int) (bp : Nat) (la ha : Option Addr) (lcap hcap n m : Nat) (ca : Option Addr) (ccap bq : Nat) (qx qy : Int) (b : Bool) (out R : Pts) (w : World) (hk : Kept W w) (hl : PolyAt w la out) (hC : PolyAt w ca R) (hcq : CdP (qx, qy)) (q0 : w.cell? ⟨bq, 0, none⟩ = some (.int .i64 qx)) (q1 : w.cell? ⟨bq, 1, none⟩ = some (.int .i64 qy)) (hb : 3 ≤ n → b = leftB R n (qx, qy) n) (hm : out.length = m) (hn : R.length = n) (h40 : m ≤ 40) (heR : errL R = 0) (hR : RingSays out R) (hcd : ∀ x ∈ out, CdP x) (h : ∀ w', Kept W w' → Post (.bool true) w') (t4 t10 t14 t15 t16 t17 t18 t24 t25 t26 t27 t28 t29 t30 t31 t32 t33 t34 t35 t36 t37 t38 t39 t40 t41 t42 t43 t44 t45 t46 t47 t48 t49 t50 t51 t52 t53 t54 t55 t56 t57 t58 t59 t60 t61 t62 t63 t64 t65 t66 t67 t68 t69 t70 t71 t72 t73 t74 t75 t76 t77 t78 t79 t80 t81 t82 t83 t84 t85 t86 t87 t88 t89 t90 t91 t92 t93 t94 t95 t96 t97 t98 t99 t100 t101 t102 t103 t104 t105 t106 t107 t108 t109 t110 t111 t112 t113 t114 t115 t116 t117 t118 t119 t120 t121 t122 t123 t124 t125 t126 t127 t128 t129 t130 t131 t132 t133 t134 t135 t136 t137 t138 t139 t140 t141 t142 t143 : Value) :
    A Try.prog Post ((base 10).at { tmps := #[rv, .agg #[.int .i64 px, .int .i64 py], undef, .pointer (some ⟨bp, 0, none⟩), t4, .bool true, .slice la m lcap, .slice ha n hcap, .int .i64 0, .slice ca n ccap, t10, .int .i64 (n : Int), .pointer (some ⟨bq, 0, none⟩), .bool b, t14, t15, t16, t17, t18, undef, undef, undef, undef, undef, t24, t25, t26, t27, t28, t29, t30, t31, t32, t33, t34, t35, t36, t37, t38, t39, t40, t41, t42, t43, t44, t45, t46, t47, t48, t49, t50, t51, t52, t53, t54, t55, t56, t57, t58, t59, t60, t61, t62, t63, t64, t65, t66, t67, t68, t69, t70, t71, t72, t73, t74, t75, t76, t77, t78, t79, t80, t81, t82, t83, t84, t85, t86, t87, t88, t89, t90, t91, t92, t93, t94, t95, t96, t97, t98, t99, t100, t101, t102, t103, t104, t105, t106, t107, t108, t109, t110, t111, t112, t113, t114, t115, t116, t117, t118, t119, t120, t121, t122, t123, t124, t125, t126, t127, t128, t129, t130, t131, t132, t133, t134, t135, t136, t137, t138, t139, t140, t141, t142, t143, undef, undef, undef, undef, undef, undef, undef, undef, undef, undef, undef, undef, undef, undef, undef, undef, undef, undef, undef, undef, undef, undef, undef, undef, undef, undef, undef, undef, undef, undef, undef, undef, undef, undef, undef, undef, undef, undef, undef], defers := [] } [.code c10e]) [] w := by
  rw [c10e_eq]
  refine .ctl (fun _ => stepG_seq) ?_
  refine A.seg bodP noEarly (fn := Try.f10) Try.func10 rfl (c := c10n) codeP10n (k := [.code c10r]) rfl (Q := QN10 rv px py bp la ha lcap hcap n m ca ccap bq b t10 t14 t15 t16 t17 t18 t24 t25 t26 t27 t28 t29 t30 t31 t32 t33 t34 t35 t36 t37 t38 t39 t40 t41 t42 t43 t44 t45 t46 t47 t48 t49 t50 t51 t52 t53 t54 t55 t56 t57 t58 t59 t60 t61 t62 t63 t64 t65 t66 t67 t68 t69 t70 t71 t72 t73 t74 t75 t76 t77 t78 t79 t80 t81 t82 t83 t84 t85 t86 t87 t88 t89 t90 t91 t92 t93 t94 t95 t96 t97 t98 t99 t100 t101 t102 t103 t104 t105 t106 t107 t108 t109 t110 t111 t112 t113 t114 t115 t116 t117 t118 t119 t120 t121 t122 t123 t124 t125 t126 t127 t128 t129 t130 t131 t132 t133 t134 t135 t136 t137 t138 t139 t140 t141 t142 t143 fun w' => Kept w w') ?_ (fun w' hs => loop10n rv px py bp la ha lcap hcap n m ca ccap bq b out R w' (hl.keptC hs.kept) (hC.keptC hs.kept) hm hn h40 heR hcd hR.all _ (fun w5 h1 => h1.kept0 hs) t4 t10 t14 t15 t16 t17 t18 t24 t25 t26 t27 t28 t29 t30 t31 t32 t33 t34 t35 t36 t37 t38 t39 t40 t41 t42 t43 t44 t45 t46 t47 t48 t49 t50 t51 t52 t53 t54 t55 t56 t57 t58 t59 t60 t61 t62 t63 t64 t65 t66 t67 t68 t69 t70 t71 t72 t73 t74 t75 t76 t77 t78 t79 t80 t81 t82 t83 t84 t85 t86 t87 t88 t89 t90 t91 t92 t93 t94 t95 t96 t97 t98 t99 t100 t101 t102 t103 t104 t105 t106 t107 t108 t109 t110 t111 t112 t113 t114 t115 t116 t117 t118 t119 t120 t121 t122 t123 t124 t125 t126 t127 t128 t129 t130 t131 t132 t133 t134 t135 t136 t137 t138 t139 t140 t141 t142 t143) ?_
  · rintro a w1 w2 hs ⟨t4, t19, t20, t21, t144, t145, t146, t147, t148, t149, t150, t151, t152, t153, t154, t155, t156, t157, t158, t159, t160, t161, t162, t163, t164, rfl, h1⟩
    exact ⟨t4, t19, t20, t21, t144, t145, t146, t147, t148, t149, t150, t151, t152, t153, t154, t155, t156, t157, t158, t159, t160, t161, t162, t163, t164, rfl, h1.same hs⟩
  rintro a w5 ⟨t4, t19, t20, t21, t144, t145, t146, t147, t148, t149, t150, t151, t152, t153, t154, t155, t156, t157, t158, t159, t160, t161, t162, t163, t164, rfl, k5⟩
  have hbb : 3 ≤ n → decide (0 ≤ withinN R (qx, qy)) = b := fun h3 => by
    rw [hb h3]
    unfold leftB
    apply decide_eq_decide.2
    have := hR.iff (by omega) (qx, qy) hcq
    rw [hn] at this
    exact this
  exact A.rest bodP noEarly (fn := Try.f10) Try.func10 rfl (c := c10r) codeP10r rfl (Q := fun a w' => a.tmps.getD 4 undef = .bool true ∧ Hid (Kept W w')) (fun a w1 w2 hs q => ⟨q.1, q.2.out.same hs⟩) (fun w' hs => rest10 rv px py bp la ha lcap hcap n m ca ccap bq qx qy b R w' (hC.keptC (k5.same hs)) hn heR hcq ((k5.same hs).cell q0) ((k5.same hs).cell q1) hbb _ (fun w6 h6 => (hk.trans (k5.same hs)).trans h6.keptB) t4 t10 t14 t15 t16 t17 t18 t19 t20 t21 t24 t25 t26 t27 t28 t29 t30 t31 t32 t33 t34 t35 t36 t37 t38 t39 t40 t41 t42 t43 t44 t45 t46 t47 t48 t49 t50 t51 t52 t53 t54 t55 t56 t57 t58 t59 t60 t61 t62 t63 t64 t65 t66 t67 t68 t69 t70 t71 t72 t73 t74 t75 t76 t77 t78 t79 t80 t81 t82 t83 t84 t85 t86 t87 t88 t89 t90 t91 t92 t93 t94 t95 t96 t97 t98 t99 t100 t101 t102 t103 t104 t105 t106 t107 t108 t109 t110 t111 t112 t113 t114 t115 t116 t117 t118 t119 t120 t121 t122 t123 t124 t125 t126 t127 t128 t129 t130 t131 t132 t133 t134 t135 t136 t137 t138 t139 t140 t141 t142 t143 t144 t145 t146 t147 t148 t149 t150 t151 t152 t153 t154 t155 t156 t157 t158 t159 t160 t161 t162 t163 t164) (fun a w' todo hd hq => A.leave10 hd hq.1 fun w2 hs => h w2 (hq.2.out.same hs))

set_option maxHeartbeats 4000000 in
theorem A.cvxD {Post : Value → World → Prop} {W : World} (rv : Value) (px py : Int) (bp : Nat) (la ha : Option Addr) (lcap hcap n m : Nat) (ca : Option Addr) (ccap bq : Nat) (qx qy : Int) (out R : Pts) (w : World) (hk : Kept W w) (hl : PolyAt w la out) (hC : PolyAt w ca R) (hcq : CdP (qx, qy)) (q0 : w.cell? ⟨bq, 0, none⟩ = some (.int .i64 qx)) (q1 : w.cell? ⟨bq, 1, none⟩ = some (.int .i64 qy)) (hm : out.length = m) (hn : R.length = n) (h40 : m ≤ 40) (hn40 : n ≤ 40) (heR : errL R = 0) (hR : RingSays out R) (hcd : ∀ x ∈ out, CdP x) (h : ∀ w', Kept W w' → Post (.bool true) w') (t4 t10 t24 t25 t26 t27 t28 t29 t30 t31 t32 t33 t34 t35 t36 t37 t38 t39 t40 t41 t42 t43 t44 t45 t46 t47 t48 t49 t50 t51 t52 t53 t54 t55 t56 t57 t58 t59 t60 t61 t62 t63 t64 t65 t66 t67 t68 t69 t70 t71 t72 t73 t74 t75 t76 t77 t78 t79 t80 t81 t82 t83 t84 t85 : Value) :
    A Try.prog Post ((base 10).at { tmps := #[rv, .agg #[.int .i64 px, .int .i64 py], undef, .pointer (some ⟨bp, 0, none⟩), t4, .bool true, .slice la m lcap, .slice ha n hcap, .int .i64 0, .slice ca n ccap, t10, .int .i64 (n : Int), .pointer (some ⟨bq, 0, none⟩), undef, undef, undef, undef, undef, undef, undef, undef, undef, undef, undef, t24, t25, t26, t27, t28, t29, t30, t31, t32, t33, t34, t35, t36, t37, t38, t39, t40, t41, t42, t43, t44, t45, t46, t47, t48, t49, t50, t51, t52, t53, t54, t55, t56, t57, t58, t59, t60, t61, t62, t63, t64, t65, t66, t67, t68, t69, t70, t71, t72, t73, t74, t75, t76, t77, t78, t79, t80, t81, t82, t83, t84, t85, undef, undef, undef, undef, undef, undef, undef, undef, undef, undef, undef, undef, undef, undef, undef, undef, undef, undef, undef, undef, undef, undef, undef, undef, undef, undef, undef, undef, undef, undef, undef, undef, undef, undef, undef, undef, undef, undef, undef, undef, undef, undef, undef, undef, undef, undef, undef, undef, undef, undef, undef, undef, undef, undef, undef, undef, undef, undef, undef, undef, undef, undef, undef, undef, undef, undef, undef, undef, undef, undef, undef, undef, undef, undef, undef, undef, undef, undef, undef, undef, undef, undef, undef, undef, undef, undef, undef, undef, undef, undef, undef, undef, undef, undef, undef, undef, undef], defers := [] } [.code c10d]) [] w := by
  rw [c10d_eq]
  refine .ctl (fun _ => stepG_seq) ?_
  simp only [c10v, c10d, c10c, c10b, c10a, Try.f10]
  refine .ctl (fun _ => stepG_region) ?_
  walk_nrm
  refine .mov (.bool true) rfl rfl (.inr rfl) rfl (by decide) ?_
  walk_nrm
  refine .ctl (fun _ => stepG_region_end) ?_
  refine .ctl (fun _ => stepG_seq) ?_
  refine A.seg bodP noEarly (fn := Try.f10) Try.func10 rfl (c := c10m) codeP10m (k := [.code c10e]) rfl (Q := QM10 rv px py bp la ha lcap hcap n m ca ccap bq t10 t24 t25 t26 t27 t28 t29 t30 t31 t32 t33 t34 t35 t36 t37 t38 t39 t40 t41 t42 t43 t44 t45 t46 t47 t48 t49 t50 t51 t52 t53 t54 t55 t56 t57 t58 t59 t60 t61 t62 t63 t64 t65 t66 t67 t68 t69 t70 t71 t72 t73 t74 t75 t76 t77 t78 t79 t80 t81 t82 t83 t84 t85 fun b w' => (3 ≤ n → b = leftB R n (qx, qy) n) ∧ Kept w w') ?_ (fun w' hs => loop10m rv px py bp la ha lcap hcap n m ca ccap bq qx qy out R w' (hl.keptC hs.kept) (hC.keptC hs.kept) (hs.kept.cell q0) (hs.kept.cell q1) hm hn h40 hn40 hR hcd hcq _ (fun b w4 h1 h2 => ⟨h2, h1.kept0 hs⟩) t4 t10 t24 t25 t26 t27 t28 t29 t30 t31 t32 t33 t34 t35 t36 t37 t38 t39 t40 t41 t42 t43 t44 t45 t46 t47 t48 t49 t50 t51 t52 t53 t54 t55 t56 t57 t58 t59 t60 t61 t62 t63 t64 t65 t66 t67 t68 t69 t70 t71 t72 t73 t74 t75 t76 t77 t78 t79 t80 t81 t82 t83 t84 t85) ?_
  · rintro a w1 w2 hs ⟨b, t4, t14, t15, t16, t17, t18, t86, t87, t88, t89, t90, t91, t92, t93, t94, t95, t96, t97, t98, t99, t100, t101, t102, t103, t104, t105, t106, t107, t108, t109, t110, t111, t112, t113, t114, t115, t116, t117, t118, t119, t120, t121, t122, t123, t124, t125, t126, t127, t128, t129, t130, t131, t132, t133, t134, t135, t136, t137, t138, t139, t140, t141, t142, t143, rfl, h1, h2⟩
    exact ⟨b, t4, t14, t15, t16, t17, t18, t86, t87, t88, t89, t90, t91, t92, t93, t94, t95, t96, t97, t98, t99, t100, t101, t102, t103, t104, t105, t106, t107, t108, t109, t110, t111, t112, t113, t114, t115, t116, t117, t118, t119, t120, t121, t122, t123, t124, t125, t126, t127, t128, t129, t130, t131, t132, t133, t134, t135, t136, t137, t138, t139, t140, t141, t142, t143, rfl, h1, h2.same hs⟩
  rintro a w4 ⟨b, t4, t14, t15, t16, t17, t18, t86, t87, t88, t89, t90, t91, t92, t93, t94, t95, t96, t97, t98, t99, t100, t101, t102, t103, t104, t105, t106, t107, t108, t109, t110, t111, t112, t113, t114, t115, t116, t117, t118, t119, t120, t121, t122, t123, t124, t125, t126, t127, t128, t129, t130, t131, t132, t133, t134, t135, t136, t137, t138, t139, t140, t141, t142, t143, rfl, hb, k4⟩
  exact A.cvxE rv px py bp la ha lcap hcap n m ca ccap bq qx qy b out R w4 (hk.trans k4) (hl.keptC k4) (hC.keptC k4) hcq (k4.cell q0) (k4.cell q1) hb hm hn h40 heR hR hcd h t4 t10 t14 t15 t16 t17 t18 t24 t25 t26 t27 t28 t29 t30 t31 t32 t33 t34 t35 t36 t37 t38 t39 t40 t41 t42 t43 t44 t45 t46 t47 t48 t49 t50 t51 t52 t53 t54 t55 t56 t57 t58 t59 t60 t61 t62 t63 t64 t65 t66 t67 t68 t69 t70 t71 t72 t73 t74 t75 t76 t77 t78 t79 t80 t81 t82 t83 t84 t85 t86 t87 t88 t89 t90 t91 t92 t93 t94 t95 t96 t97 t98 t99 t100 t101 t102 t103 t104 t105 t106 t107 t108 t109 t110 t111 t112 t113 t114 t115 t116 t117 t118 t119 t120 t121 t122 t123 t124 t125 t126 t127 t128 t129 t130 t131 t132 t133 t134 t135 t136 t137 t138 t139 t140 t141 t142 t143

set_option maxHeartbeats 4000000 in
theorem A.cvxC {Post : Value → World → Prop} {W : World} (rv : Value) (px py : Int) (bp : Nat) (la ha : Option Addr) (lcap hcap n m : Nat) (ca : Option Addr) (ccap : Nat) (out R : Pts) (w : World) (hk : Kept W w) (hK : K10 px py bp la ha out R w) (hC : PolyAt w ca R) (hm : out.length = m) (hn : R.length = n) (h40 : m ≤ 40) (hn40 : n ≤ 40) (heR : errL R = 0) (hR : RingSays out R) (hcd : ∀ x ∈ out, CdP x) (hx1 : -9223372036854775808 ≤ px) (hx2 : px < 9223372036854775808) (hy1 : -9223372036854775808 ≤ py) (hy2 : py < 9223372036854775808) (h : ∀ w', Kept W w' → Post (.bool true) w') (t4 t10 t24 t25 t26 t27 t28 t29 t30 t31 t32 t33 t34 t35 t36 t37 t38 t39 t40 t41 t42 t43 t44 t45 t46 t47 t48 t49 t50 t51 t52 t53 t54 t55 t56 t57 t58 t59 t60 t61 t62 t63 t64 t65 t66 t67 t68 t69 t70 t71 t72 t73 t74 t75 t76 : Value) :
    A Try.prog Post ((base 10).at { tmps := #[rv, .agg #[.int .i64 px, .int .i64 py], undef, .pointer (some ⟨bp, 0, none⟩), t4, .bool true, .slice la m lcap, .slice ha n hcap, .int .i64 0, .slice ca n ccap, t10, undef, undef, undef, undef, undef, undef, undef, undef, undef, undef, undef, undef, undef, t24, t25, t26, t27, t28, t29, t30, t31, t32, t33, t34, t35, t36, t37, t38, t39, t40, t41, t42, t43, t44, t45, t46, t47, t48, t49, t50, t51, t52, t53, t54, t55, t56, t57, t58, t59, t60, t61, t62, t63, t64, t65, t66, t67, t68, t69, t70, t71, t72, t73, t74, t75, t76, undef, undef, undef, undef, undef, undef, undef, undef, undef, undef, undef, undef, undef, undef, undef, undef, undef, undef, undef, undef, undef, undef, undef, undef, undef, undef, undef, undef, undef, undef, undef, undef, undef, undef, undef, undef, undef, undef, undef, undef, undef, undef, undef, undef, undef, undef, undef, undef, undef, undef, undef, undef, undef, undef, undef, undef, undef, undef, undef, undef, undef, undef, undef, undef, undef, undef, undef, undef, undef, undef, undef, undef, undef, undef, undef, undef, undef, undef, undef, undef, undef, undef, undef, undef, undef, undef, undef, undef, undef, undef, undef, undef, undef, undef, undef, undef, undef, undef, undef, undef, undef, undef, undef, undef, undef, undef], defers := [] } [.code c10c]) [] w := by
  rw [c10c_eq]
  refine .ctl (fun _ => stepG_seq) ?_
  simp only [c10u, c10c, c10b, c10a, Try.f10]
  refine .ctl (fun _ => stepG_region) ?_
  walk_nrm
  refine .mov (.slice ha n hcap) rfl rfl (.inl rfl) rfl (by decide) ?_
  walk_nrm
  refine .val (.int .i64 (n : Int)) bodP.func rfl rfl (by decide) (.inr (.inr (.inl rfl))) (fun w' _ => by go_simp) ?_
  walk_nrm
  refine .mov (.int .i64 (n : Int)) rfl rfl (.inr rfl) rfl (by decide) ?_
  walk_nrm
  refine .ctl (fun _ => stepG_region_end) ?_
  refine .ctl (fun _ => stepG_seq) ?_
  refine A.seg bodP noEarly (fn := Try.f10) Try.func10 rfl (c := c10q) codeP10q (k := [.code c10d]) rfl (Q := QQ10 rv px py bp la ha lcap hcap n m (.slice ca n ccap) t4 t10 t24 t25 t26 t27 t28 t29 t30 t31 t32 t33 t34 t35 t36 t37 t38 t39 t40 t41 t42 t43 t44 t45 t46 t47 t48 t49 t50 t51 t52 t53 t54 t55 t56 t57 t58 t59 t60 t61 t62 t63 t64 t65 t66 t67 t68 t69 t70 t71 t72 t73 t74 t75 t76 (.slice ha n hcap) (.int .i64 (n : Int)) (fun bq qx qy w' => CdP (qx, qy) ∧ w'.cell? ⟨bq, 0, none⟩ = some (.int .i64 qx) ∧ w'.cell? ⟨bq, 1, none⟩ = some (.int .i64 qy) ∧ Kept w w')) ?_ (fun w' hs => seg10q rv px py bp la ha lcap hcap n m (.slice ca n ccap) w' (hs.kept.cell hK.p0) (hs.kept.cell hK.p1) hx1 hx2 hy1 hy2 _ (fun bq qx qy w3 h1 h2 h3 h4 h5 => ⟨⟨h2, h3⟩, h4, h5, h1.kept0 hs⟩) t4 t10 t24 t25 t26 t27 t28 t29 t30 t31 t32 t33 t34 t35 t36 t37 t38 t39 t40 t41 t42 t43 t44 t45 t46 t47 t48 t49 t50 t51 t52 t53 t54 t55 t56 t57 t58 t59 t60 t61 t62 t63 t64 t65 t66 t67 t68 t69 t70 t71 t72 t73 t74 t75 t76 (.slice ha n hcap) (.int .i64 (n : Int))) ?_
  · rintro a w1 w2 hs ⟨bq, qx, qy, t79, t80, t81, t82, t83, t84, t85, rfl, h1, h2, h3, h4⟩
    exact ⟨bq, qx, qy, t79, t80, t81, t82, t83, t84, t85, rfl, h1, hs.kept.cell h2, hs.kept.cell h3, h4.same hs⟩
  rintro a w3 ⟨bq, qx, qy, t79, t80, t81, t82, t83, t84, t85, rfl, hcq, q0, q1, k3⟩
  exact A.cvxD rv px py bp la ha lcap hcap n m ca ccap bq qx qy out R w3 (hk.trans k3) (hK.l.keptC k3) (hC.keptC k3) hcq q0 q1 hm hn h40 hn40 heR hR hcd h t4 t10 t24 t25 t26 t27 t28 t29 t30 t31 t32 t33 t34 t35 t36 t37 t38 t39 t40 t41 t42 t43 t44 t45 t46 t47 t48 t49 t50 t51 t52 t53 t54 t55 t56 t57 t58 t59 t60 t61 t62 t63 t64 t65 t66 t67 t68 t69 t70 t71 t72 t73 t74 t75 t76 (.slice ha n hcap) (.int .i64 (n : Int)) t79 t80 t81 t82 t83 t84 t85

set_option maxHeartbeats 4000000 in
theorem A.cvx {Post : Value → World → Prop} {W : World} (rv : Value) (px py : Int) (bp : Nat) (la ha : Option Addr) (lcap hcap n m : Nat) (out R : Pts) (w : World) (hK : K10 px py bp la ha out R w) (hk : Kept W w) (hm : out.length = m) (hn : R.length = n) (h40 : m ≤ 40) (hR : RingSays out R) (hcd : ∀ x ∈ out, CdP x) (hx1 : -9223372036854775808 ≤ px) (hx2 : px < 9223372036854775808) (hy1 : -9223372036854775808 ≤ py) (hy2 : py < 9223372036854775808) (h : ∀ w', Kept W w' → Post (.bool true) w') (t24 t25 t26 t27 t28 t29 t30 t31 : Value) :
    A Try.prog Post ((base 10).at { tmps := #[rv, .agg #[.int .i64 px, .int .i64 py], undef, .pointer (some ⟨bp, 0, none⟩), .bool false, .bool true, .slice la m lcap, .slice ha n hcap, .int .i64 0, undef, undef, undef, undef, undef, undef, undef, undef, undef, undef, undef, undef, undef, undef, undef, t24, t25, t26, t27, t28, t29, t30, t31, undef, undef, undef, undef, undef, undef, undef, undef, undef, undef, undef, undef, undef, undef, undef, undef, undef, undef, undef, undef, undef, undef, undef, undef, undef, undef, undef, undef, undef, undef, undef, undef, undef, undef, undef, undef, undef, undef, undef, undef, undef, undef, undef, undef, undef, undef, undef, undef, undef, undef, undef, undef, undef, undef, undef, undef, undef, undef, undef, undef, undef, undef, undef, undef, undef, undef, undef, undef, undef, undef, undef, undef, undef, undef, undef, undef, undef, undef, undef, undef, undef, undef, undef, undef, undef, undef, undef, undef, undef, undef, undef, undef, undef, undef, undef, undef, undef, undef, undef, undef, undef, undef, undef, undef, undef, undef, undef, undef, undef, undef, undef, undef, undef, undef, undef, undef, undef, undef, undef, undef, undef, undef, undef, undef, undef, undef, undef, undef, undef, undef, undef, undef, undef, undef, undef, undef, undef, undef, undef, undef, undef, undef, undef, undef, undef, undef, undef, undef, undef, undef, undef], defers := [] } [.code c10a]) [] w := by
  have hn40 : n ≤ 40 := by have := hR.len; omega
  have hmn : m = 0 ↔ n = 0 := by
    rw [← hm, ← hn, List.length_eq_zero_iff, List.length_eq_zero_iff]
    exact hR.some.symm
  have heR : errL R = 0 := by
    unfold errL
    rw [if_neg (by omega), okE]
    have : okB R = true := by
      unfold okB
      rw [List.all_eq_true]
      intro x hx
      have := hcd x (hR.sub x hx)
      simp [cdB_iff.2 this.1, cdB_iff.2 this.2]
    rw [this]
    rfl
  rw [c10a_eq]
  refine .ctl (fun _ => stepG_seq) ?_
  refine A.seg bodP noEarly (fn := Try.f10) Try.func10 rfl (c := c10p) codeP10p (k := [.code c10b]) rfl (Q := QP10 rv px py bp la ha lcap hcap n m t24 t25 t26 t27 t28 t29 t30 t31 fun w' => Kept w w') ?_ (fun w' hs => seg10p rv px py bp la ha lcap hcap n m w' hmn _ hs.kept t24 t25 t26 t27 t28 t29 t30 t31) ?_
  · rintro a w1 w2 hs ⟨t32, t33, t34, t35, t36, t37, t38, t39, t40, t41, t42, t43, t44, t45, t46, rfl, h1⟩
    exact ⟨t32, t33, t34, t35, t36, t37, t38, t39, t40, t41, t42, t43, t44, t45, t46, rfl, h1.same hs⟩
  rintro a w1 ⟨t32, t33, t34, t35, t36, t37, t38, t39, t40, t41, t42, t43, t44, t45, t46, rfl, k1⟩
  rw [c10b_eq]
  refine .ctl (fun _ => stepG_seq) ?_
  simp only [c10g, c10b, c10a, Try.f10]
  refine .ctl (fun _ => stepG_region) ?_
  walk_nrm
  refine .mov (.slice none 0 0) rfl rfl (.inr rfl) rfl (by decide) ?_
  walk_nrm
  refine .ctl (fun _ => stepG_region_end) ?_
  refine .ctl (fun _ => stepG_seq) ?_
  refine A.seg bodP noEarly (fn := Try.f10) Try.func10 rfl (c := c10l) codeP10l (k := [.code c10c]) rfl (Q := QL10 rv px py bp la ha lcap hcap n m t24 t25 t26 t27 t28 t29 t30 t31 t32 t33 t34 t35 t36 t37 t38 t39 t40 t41 t42 t43 t44 t45 t46 fun cv w' => ∃ ca ccap, cv = .slice ca n ccap ∧ PolyAt w' ca R ∧ Kept w1 w') ?_ (fun w' hs => loop10 rv px py bp la ha lcap hcap n m out R w' (hK.kept (k1.same hs)) hm hn h40 hn40 hR.sub _ (fun cv w2 h1 h2 => ?_) t24 t25 t26 t27 t28 t29 t30 t31 t32 t33 t34 t35 t36 t37 t38 t39 t40 t41 t42 t43 t44 t45 t46) ?_
  · rintro a w1 w2 hs ⟨cv, t4, t10, t47, t48, t49, t50, t51, t52, t53, t54, t55, t56, t57, t58, t59, t60, t61, t62, t63, t64, t65, t66, t67, t68, t69, t70, t71, t72, t73, t74, t75, t76, rfl, ca, ccap, e, h1, h2⟩
    exact ⟨cv, t4, t10, t47, t48, t49, t50, t51, t52, t53, t54, t55, t56, t57, t58, t59, t60, t61, t62, t63, t64, t65, t66, t67, t68, t69, t70, t71, t72, t73, t74, t75, t76, rfl, ca, ccap, e, h1.keptC hs.kept, h2.same hs⟩
  · obtain ⟨ca, ccap, e, hp⟩ := own_poly h2 hn
    exact ⟨ca, ccap, e, hp, h1.kept0 hs⟩
  rintro a w2 ⟨cv, t4, t10, t47, t48, t49, t50, t51, t52, t53, t54, t55, t56, t57, t58, t59, t60, t61, t62, t63, t64, t65, t66, t67, t68, t69, t70, t71, t72, t73, t74, t75, t76, rfl, ca, ccap, rfl, hC, k2⟩
  exact A.cvxC rv px py bp la ha lcap hcap n m ca ccap out R w2 ((hk.trans k1).trans k2) (hK.kept (k1.trans k2)) hC hm hn h40 hn40 heR hR hcd hx1 hx2 hy1 hy2 h t4 t10 t24 t25 t26 t27 t28 t29 t30 t31 t32 t33 t34 t35 t36 t37 t38 t39 t40 t41 t42 t43 t44 t45 t46 t47 t48 t49 t50 t51 t52 t53 t54 t55 t56 t57 t58 t59 t60 t61 t62 t63 t64 t65 t66 t67 t68 t69 t70 t71 t72 t73 t74 t75 t76

set_option maxHeartbeats 4000000 in
/-- Convex answers true, and leaves what there was as it was. -/
theorem A.convex {Post : Value → World → Prop} {W : World} {ro : Option Addr} {rcap : Nat} {rl : Pts} {px py : Int} (hP : PolyAt W ro rl) (hin : In64 rl) (hx1 : -9223372036854775808 ≤ px) (hx2 : px < 9223372036854775808) (hy1 : -9223372036854775808 ≤ py) (hy2 : py < 9223372036854775808) (hG : GN ≤ W.heap.size) (h : ∀ w', Kept W w' → Post (.bool true) w') :
    A Try.prog Post (Frame.enter Try.prog 10 #[.slice ro rl.length rcap, .agg #[.int .i64 px, .int .i64 py]] .normal) [] W := by
  rw [Conc.enter_at _ Try.func10 (c := Try.f10.body.getD .skip) rfl]
  walk_nrmf Try.f10
  refine .ctl (fun _ => stepG_seq) ?_
  refine .ctl (fun _ => stepG_region) ?_
  walk_nrm
  refine .op bodP.func rfl rfl (by decide) trivial fun w0 hs0 => ⟨.pointer (some ⟨w0.heap.size, 0, none⟩), w0.alloc (.cells #[.int .i64 px, .int .i64 py] 23), by go_simp, ?_⟩
  walk_nrm
  have kB : Kept W (w0.alloc (.cells #[.int .i64 px, .int .i64 py] 23)) := (New.alloc w0 _).kept0 hs0
  have p0 : (w0.alloc (.cells #[.int .i64 px, .int .i64 py] 23)).cell? ⟨w0.heap.size, 0, none⟩ = some (.int .i64 px) := by go_simp
  have p1 : (w0.alloc (.cells #[.int .i64 px, .int .i64 py] 23)).cell? ⟨w0.heap.size, 1, none⟩ = some (.int .i64 py) := by go_simp
  generalize w0.alloc (.cells #[.int .i64 px, .int .i64 py] 23) = wB at kB p0 p1 ⊢
  generalize w0.heap.size = bp at p0 p1 ⊢
  clear hs0
  refine .mov (.bool false) rfl rfl (.inr rfl) rfl (by decide) ?_
  walk_nrm
  refine .ctl (fun _ => stepG_region_end) ?_
  refine .ctl (fun _ => stepG_seq) ?_
  refine .ctl (fun _ => stepG_region) ?_
  walk_nrm
  refine .ent (f := 16) (xs := #[]) rfl rfl (by decide) (fun w' => by go_simp) (fun w' => by simp [go_sem, callFunc, Try.func16, Try.f16]) ?_
  refine A.call bodP noEarly fs16 Try.func16 (c := Try.f16.body.getD .skip) rfl (Q := fun v w' => v = .bool true ∧ Kept wB w') (fun v w1 w2 k q => ⟨q.1, q.2.same k⟩) (fun w' hs' => (sure_any w').mono ?_) fun tv w1 hq => ?_
  · rintro e w2 ⟨rfl, H⟩
    exact ⟨_, rfl, rfl, H.out.kept0 hs'⟩
  obtain ⟨rfl, k1⟩ := hq
  rw [Frame.finish_at]
  walk_nrm
  refine .mov (.bool true) rfl rfl (.inr rfl) rfl (by decide) ?_
  walk_nrm
  refine .ctl (fun _ => stepG_region_end) ?_
  refine .ctl (fun _ => stepG_seq) ?_
  refine .ctl (fun _ => stepG_region) ?_
  walk_nrm
  refine .mov (.slice ro rl.length rcap) rfl rfl (.inl rfl) rfl (by decide) ?_
  walk_nrm
  refine .ent (f := 17) (xs := #[.slice ro rl.length rcap]) rfl rfl (by decide) (fun w' => by go_simp) (fun w' => by simp [go_sem, callFunc, Try.func17, Try.f17]) ?_
  refine A.call bodP noEarly fs17 Try.func17 (c := Try.f17.body.getD .skip) rfl (Q := fun v w' => Kept w1 w' ∧ ∃ out : Pts, okB out = true ∧ out.length ≤ 40 ∧ w'.ownsRow w1.heap.size 23 2 v out.length (flatP out) ∧ AllRow IntCell w' v) ?_ (fun w' hs' => (fits_poly ro rcap rl w' (hP.keptC ((kB.trans k1).same hs')) hin).mono ?_) fun lv w2 hq => ?_
  · rintro v w1 w2 k ⟨h1, out, h2, h3, h4, h5⟩
    refine ⟨h1.same k, out, h2, h3, ?_, fun g hg c e f hc => h5 g hg c e f (by rw [← k.heap]; exact hc)⟩
    refine ⟨h4.1, ?_⟩
    rcases h4.2 with ⟨e, hn⟩ | ⟨g, cap, cur, e, hb, hg, rest⟩
    · exact .inl ⟨e, hn⟩
    · exact .inr ⟨g, cap, cur, e, hb, by rw [k.heap]; exact hg, rest⟩
  · rintro e w2 ⟨v, out, rfl, H⟩
    have hg := H.out.got
    refine ⟨v, rfl, hg.new.kept0 hs', out, hg.ok, by rw [hg.len]; omega, ?_, H.out.ints⟩
    have := hg.own
    rw [hs'.heap, ← hg.len] at this
    exact this
  obtain ⟨k2, out, hok, h40, hown, hints⟩ := hq
  have hcd : ∀ x ∈ out, CdP x := fun x hx => okB_cd hok hx
  have hrow := own_rowL hown hints (Nat.le_trans hG (kB.trans k1).size)
  have herr : errL out = 0 := by
    unfold errL
    rw [if_neg (by omega), okE, hok]
    rfl
  rw [Frame.finish_at]
  walk_nrm
  refine .mov (lv) rfl rfl (.inr rfl) rfl (by decide) ?_
  walk_nrm
  refine .ctl (fun _ => stepG_region_end) ?_
  refine .ctl (fun _ => stepG_seq) ?_
  refine .ctl (fun _ => stepG_region) ?_
  walk_nrm
  refine .mov (lv) rfl rfl (.inl rfl) rfl (by decide) ?_
  walk_nrm
  refine .ent (f := 32) (xs := #[lv]) rfl rfl (by decide) (fun w' => by go_simp) (fun w' => by simp [go_sem, callFunc, Try.func32, Try.f32]) ?_
  refine A.hull hrow (Nat.le_trans hG ((kB.trans k1).trans k2).size) (fun he => absurd herr he) fun _ hv w3 hO => ?_
  rw [Frame.finish_at]
  walk_nrm
  refine .mov (.tuple #[hv, .int .i64 0]) rfl rfl (.inl rfl) rfl (by decide) ?_
  walk_nrm
  refine .val (hv) bodP.func rfl rfl (by decide) trivial (fun w' _ => by go_simp) ?_
  walk_nrm
  refine .val (.int .i64 0) bodP.func rfl rfl (by decide) trivial (fun w' _ => by go_simp) ?_
  walk_nrm
  refine .mov (hv) rfl rfl (.inr rfl) rfl (by decide) ?_
  walk_nrm
  refine .mov (.int .i64 0) rfl rfl (.inr rfl) rfl (by decide) ?_
  walk_nrm
  refine .ctl (fun _ => stepG_region_end) ?_
  have hrs := ring_says hcd
  obtain ⟨la, lcap, rfl, hl⟩ := own_poly hown rfl
  obtain ⟨ha, hcap, rfl, hh⟩ := own_nums (xs := (ringOf out).map (num out)) hO.row (by rw [hullN_ring hcd, List.map_map]; rfl)
  have k3 := hO.kept
  rw [List.length_map]
  exact A.cvx _ px py bp la ha lcap hcap (ringOf out).length out.length out (ringOf out) w3 ⟨((k1.trans k2).trans k3).cell p0, ((k1.trans k2).trans k3).cell p1, hl.keptC k3, hh⟩ (((kB.trans k1).trans k2).trans k3) rfl rfl h40 hrs hcd hx1 hx2 hy1 hy2 h _ _ _ _ _ _ _ _ 

end Go.Proofs.Ytgeoffpcmkofkaa
