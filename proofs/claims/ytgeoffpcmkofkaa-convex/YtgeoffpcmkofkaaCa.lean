/- For Convex: what stands between its calls. (Made by gen10.py.) -/
import Derived.Test.YtgeoffpcmkofkaaHp
import Derived.Test.YtgeoffpcmkofkaaXh
import Derived.Deep.AppendLies
namespace Go.Proofs.Ytgeoffpcmkofkaa
open Go Go.Conc Go.RowKit Fl Go.Maps Go.Lib Go.Joins
set_option maxRecDepth 100000
attribute [local go_sem ↓] Go.wp_at_zero Go.wp_at_succ

noncomputable def c10a : Code := match Try.f10.body with
  | some (.seq _ (.seq _ (.seq _ (.seq _ r)))) => r
  | _ => .skip
noncomputable def c10p : Code := match c10a with
  | .seq r _ => r
  | _ => .skip
noncomputable def c10b : Code := match c10a with
  | .seq _ r => r
  | _ => .skip
noncomputable def c10l : Code := match c10b with
  | .seq _ (.seq r _) => r
  | _ => .skip
noncomputable def c10c : Code := match c10b with
  | .seq _ (.seq _ r) => r
  | _ => .skip
noncomputable def c10q : Code := match c10c with
  | .seq _ (.seq r _) => r
  | _ => .skip
noncomputable def c10d : Code := match c10c with
  | .seq _ (.seq _ r) => r
  | _ => .skip
noncomputable def c10m : Code := match c10d with
  | .seq _ (.seq r _) => r
  | _ => .skip
noncomputable def c10e : Code := match c10d with
  | .seq _ (.seq _ r) => r
  | _ => .skip
noncomputable def c10n : Code := match c10e with
  | .seq r _ => r
  | _ => .skip
noncomputable def c10r : Code := match c10e with
  | .seq _ r => r
  | _ => .skip
theorem codeP10p : CodeP Try.prog (FSof fsI) c10p := codeP_sound (by kernel_rfl)
theorem codeP10l : CodeP Try.prog (FSof fsI) c10l := codeP_sound (by kernel_rfl)
theorem codeP10q : CodeP Try.prog (FSof fsI) c10q := codeP_sound (by kernel_rfl)
theorem codeP10m : CodeP Try.prog (FSof fsI) c10m := codeP_sound (by kernel_rfl)
theorem codeP10n : CodeP Try.prog (FSof fsI) c10n := codeP_sound (by kernel_rfl)
theorem codeP10r : CodeP Try.prog (FSof fsI) c10r := codeP_sound (by kernel_rfl)
theorem Kept.cell {w w' : World} (k : Kept w w') {a : Addr} {v : Value} (hc : w.cell? a = some v) : w'.cell? a = some v :=
  (World.cell?_of_block (k.block a.block (World.block_lt_of_cell? w _ hc))).trans hc
theorem New.keptB {w w' : World} (h : New w w') : Kept w w' := h.kept0 (Same.refl w)
theorem PolyAt.keptC {w w' : World} {ao : Option Addr} {l : Pts} (h : PolyAt w ao l) (k : Kept w w') : PolyAt w' ao l := fun h0 => by
  obtain ⟨g, off, h1, h2, h3⟩ := h h0
  exact ⟨g, off, h1, h2.heap (k.block g h3), Nat.lt_of_lt_of_le h3 k.size⟩
/-- Numbers in a row that may be nil. -/
def NumsR (w : World) (ao : Option Addr) (xs : List Nat) : Prop := 0 < xs.length → ∃ g, ao = some ⟨g, 0, none⟩ ∧ ∀ (i x : Nat), xs[i]? = some x → w.cell? ⟨g, i, none⟩ = some (.int .i64 (x : Int))
/-- What lies in memory: the point, the list, the numbers of its corners. -/
structure K10 (px py : Int) (bp : Nat) (la ha : Option Addr) (out R : Pts) (w : World) : Prop where
  p0 : w.cell? ⟨bp, 0, none⟩ = some (.int .i64 px)
  p1 : w.cell? ⟨bp, 1, none⟩ = some (.int .i64 py)
  l : PolyAt w la out
  h : NumsR w ha (R.map (num out))
theorem K10.kept {px py : Int} {bp : Nat} {la ha : Option Addr} {out R : Pts} {w w' : World} (h : K10 px py bp la ha out R w) (k : Kept w w') : K10 px py bp la ha out R w' :=
  ⟨k.cell h.p0, k.cell h.p1, h.l.keptC k, fun h0 => let ⟨g, h1, h2⟩ := h.h h0; ⟨g, h1, fun i x hx => k.cell (h2 i x hx)⟩⟩
theorem pushP {w wr : World} {k : Nat} {v : Value} {xs : List Value} (hn : New w wr) (ho : wr.ownsRow w.heap.size 23 2 v k xs) (x y : Int) (hk : k ≤ 1000000) :
    ∃ vk wk, (Builtin.append_ #[28, 28] 28 #[v, .slice (some ⟨wr.heap.size, 0, none⟩) 1 1]).run Try.prog (wr.alloc (.cells #[.int .i64 x, .int .i64 y] 23)) = .ok vk wk ∧ Hid (New w wk ∧ wk.ownsRow w.heap.size 23 2 vk (k + 1) (xs ++ [.int .i64 x, .int .i64 y])) := by
  obtain ⟨i0, hi0, hz0, hz1, hz2⟩ := info_parts Try.info23
  obtain ⟨vk, wk, k1, k2, k3, k4⟩ := run_append_own (P := Try.prog) (wr.alloc (.cells #[.int .i64 x, .int .i64 y] 23)) w.heap.size 28 28 23 i0 _ 2 16 Try.underlying28 hi0 hz0 hz1 hz2 rfl (by omega) v k xs (ho.alloc _) ⟨wr.heap.size, 0, none⟩ 1 1 [.int .i64 x, .int .i64 y] rfl
    (World.news_of_block (cs := #[.int .i64 x, .int .i64 y]) (t := 23) (fr := (0, 0)) (heap_alloc_new wr _)) (by simp [Value.oneCell']) (by unfold maxLen; omega) (by omega) (by have := hn.size; simp; omega)
  refine ⟨vk, wk, k1, (hn.alloc' _).trans k3 fun g hg => ?_, k2⟩
  rcases Nat.lt_or_ge g w.heap.size with h1 | h1
  · exact absurd hg.symm (own_ne ho h1)
  · exact h1
theorem flat_take {R : Pts} {k : Nat} {x : Pt} (h : R[k]? = some x) : flatP (R.take (k + 1)) = flatP (R.take k) ++ [.int .i64 x.1, .int .i64 x.2] := by
  rw [List.take_add_one, h, flatP_append]
  rfl
/-- Behind the test. -/
def QP10 (rv : Value) (px py : Int) (bp : Nat) (la ha : Option Addr) (lcap hcap n m : Nat) (t24 t25 t26 t27 t28 t29 t30 t31 : Value) (F : World → Prop) (a : Act) (w : World) : Prop :=
  ∃ t32 t33 t34 t35 t36 t37 t38 t39 t40 t41 t42 t43 t44 t45 t46, a = { tmps := #[rv, .agg #[.int .i64 px, .int .i64 py], undef, .pointer (some ⟨bp, 0, none⟩), .bool false, .bool true, .slice la m lcap, .slice ha n hcap, .int .i64 0, undef, undef, undef, undef, undef, undef, undef, undef, undef, undef, undef, undef, undef, undef, undef, t24, t25, t26, t27, t28, t29, t30, t31, t32, t33, t34, t35, t36, t37, t38, t39, t40, t41, t42, t43, t44, t45, t46, undef, undef, undef, undef, undef, undef, undef, undef, undef, undef, undef, undef, undef, undef, undef, undef, undef, undef, undef, undef, undef, undef, undef, undef, undef, undef, undef, undef, undef, undef, undef, undef, undef, undef, undef, undef, undef, undef, undef, undef, undef, undef, undef, undef, undef, undef, undef, undef, undef, undef, undef, undef, undef, undef, undef, undef, undef, undef, undef, undef, undef, undef, undef, undef, undef, undef, undef, undef, undef, undef, undef, undef, undef, undef, undef, undef, undef, undef, undef, undef, undef, undef, undef, undef, undef, undef, undef, undef, undef, undef, undef, undef, undef, undef, undef, undef, undef, undef, undef, undef, undef, undef, undef, undef, undef, undef, undef, undef, undef, undef, undef, undef, undef, undef, undef, undef, undef, undef, undef, undef, undef, undef, undef, undef, undef, undef, undef, undef, undef, undef, undef, undef, undef, undef, undef, undef], defers := [] } ∧ F w
set_option maxHeartbeats 1600000 in
theorem seg10p (rv : Value) (px py : Int) (bp : Nat) (la ha : Option Addr) (lcap hcap n m : Nat) (w : World) (hmn : m = 0 ↔ n = 0) (F : World → Prop) (hF : F w) (t24 t25 t26 t27 t28 t29 t30 t31 : Value) :
    c10p.wp Try.prog (fun e a w' => e = .normal ∧ QP10 rv px py bp la ha lcap hcap n m t24 t25 t26 t27 t28 t29 t30 t31 F a w') { tmps := #[rv, .agg #[.int .i64 px, .int .i64 py], undef, .pointer (some ⟨bp, 0, none⟩), .bool false, .bool true, .slice la m lcap, .slice ha n hcap, .int .i64 0, undef, undef, undef, undef, undef, undef, undef, undef, undef, undef, undef, undef, undef, undef, undef, t24, t25, t26, t27, t28, t29, t30, t31, undef, undef, undef, undef, undef, undef, undef, undef, undef, undef, undef, undef, undef, undef, undef, undef, undef, undef, undef, undef, undef, undef, undef, undef, undef, undef, undef, undef, undef, undef, undef, undef, undef, undef, undef, undef, undef, undef, undef, undef, undef, undef, undef, undef, undef, undef, undef, undef, undef, undef, undef, undef, undef, undef, undef, undef, undef, undef, undef, undef, undef, undef, undef, undef, undef, undef, undef, undef, undef, undef, undef, undef, undef, undef, undef, undef, undef, undef, undef, undef, undef, undef, undef, undef, undef, undef, undef, undef, undef, undef, undef, undef, undef, undef, undef, undef, undef, undef, undef, undef, undef, undef, undef, undef, undef, undef, undef, undef, undef, undef, undef, undef, undef, undef, undef, undef, undef, undef, undef, undef, undef, undef, undef, undef, undef, undef, undef, undef, undef, undef, undef, undef, undef, undef, undef, undef, undef, undef, undef, undef, undef, undef, undef, undef, undef, undef, undef, undef, undef, undef, undef], defers := [] } w := by
  simp only [c10p, c10a, Try.f10]
  have HF : Hid (F w) := hF
  clear hF
  by_cases h0 : m = 0
  · have h1 := hmn.1 h0
    subst h0 h1
    clear hmn
    go_wp2_with fail
    exact ⟨_, _, _, _, _, _, _, _, _, _, _, _, _, _, _, rfl, HF.out⟩
  · have h1 : (0 : Int) < (m : Int) := by omega
    have h2 : (0 : Int) < (n : Int) := by have : n ≠ 0 := fun e => h0 (hmn.2 e); omega
    have h3 : decide (0 < m) = true := decide_eq_true (by omega)
    have h4 : decide (0 < n) = true := decide_eq_true (by omega)
    clear hmn
    go_wp2_with fail
    exact ⟨_, _, _, _, _, _, _, _, _, _, _, _, _, _, _, rfl, HF.out⟩

end Go.Proofs.Ytgeoffpcmkofkaa
