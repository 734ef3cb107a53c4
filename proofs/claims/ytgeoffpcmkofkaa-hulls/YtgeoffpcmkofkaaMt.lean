/- The walk of Hulls, beside goroutines that only leave. (Made by gen9.py.) -/
import Derived.Test.YtgeoffpcmkofkaaMs
namespace Go.Proofs.Ytgeoffpcmkofkaa
open Go Go.Conc Go.RowKit Fl Go.Maps Go.Lib Go.Joins
set_option maxRecDepth 100000
attribute [local go_sem ↓] Go.wp_at_zero Go.wp_at_succ

noncomputable def c9b : Code := match Try.f9.body with
  | some (.seq _ (.seq _ (.seq _ (.seq _ r)))) => r
  | _ => .skip
noncomputable def c9l : Code := match c9b with
  | .seq _ (.seq _ (.seq _ (.seq _ (.seq r _)))) => r
  | _ => .skip
noncomputable def c9c : Code := match c9b with
  | .seq _ (.seq _ (.seq _ (.seq _ (.seq _ r)))) => r
  | _ => .skip
noncomputable def c9s : Code := match c9c with
  | .seq r _ => r
  | _ => .skip
noncomputable def c9d : Code := match c9c with
  | .seq _ r => r
  | _ => .skip
noncomputable def c9r : Code := match c9d with
  | .seq _ r => r
  | _ => .skip
theorem codeP9l : CodeP Try.prog (FSof fsI) c9l := codeP_sound (by kernel_rfl)
theorem codeP9s : CodeP Try.prog (FSof fsI) c9s := codeP_sound (by kernel_rfl)
theorem codeP9r : CodeP Try.prog (FSof fsI) c9r := codeP_sound (by kernel_rfl)
theorem fs30 : FSof fsI 30 := by decide
theorem fs31 : FSof fsI 31 := by decide
theorem fs26 : FSof fsI 26 := by decide
theorem fs28 : FSof fsI 28 := by decide
theorem fs33 : FSof fsI 33 := by decide
theorem OwnN.same {w w' : World} {base : Nat} {v : Value} {cs : List Nat} (h : OwnN w base v cs) (k : Same w w') : OwnN w' base v cs := by
  refine ⟨h.1, ?_⟩
  rcases h.2 with ⟨e, hn⟩ | ⟨g, cap, cur, e, hb, hg, rest⟩
  · exact .inl ⟨e, hn⟩
  · exact .inr ⟨g, cap, cur, e, hb, by rw [k.heap]; exact hg, rest⟩
theorem ownsRow_to {w w' : World} {base N n size : Nat} {e : TypeId} {v : Value} {xs : List Value} (h : w.ownsRow base e size v n xs) (k : KeptTo N w w') (hN : ∀ g, v.ownBlock = some g → g < N) : w'.ownsRow base e size v n xs := by
  refine ⟨h.1, ?_⟩
  rcases h.2 with ⟨e, hn⟩ | ⟨g, cap, cur, e, hb, hg, rest⟩
  · exact .inl ⟨e, hn⟩
  · exact .inr ⟨g, cap, cur, e, hb, by rw [k.block g (hN g (by rw [e]; rfl))]; exact hg, rest⟩
theorem ownsRow_same {w w' : World} {base n size : Nat} {e : TypeId} {v : Value} {xs : List Value} (h : w.ownsRow base e size v n xs) (k : Same w w') : w'.ownsRow base e size v n xs := by
  refine ⟨h.1, ?_⟩
  rcases h.2 with ⟨e, hn⟩ | ⟨g, cap, cur, e, hb, hg, rest⟩
  · exact .inl ⟨e, hn⟩
  · exact .inr ⟨g, cap, cur, e, hb, by rw [k.heap]; exact hg, rest⟩
theorem ownsRow_blk {w : World} {base n size : Nat} {e : TypeId} {v : Value} {xs : List Value} (h : w.ownsRow base e size v n xs) : ∀ g, v.ownBlock = some g → base ≤ g ∧ g < w.heap.size := by
  intro g hg
  rcases h.2 with ⟨e, _⟩ | ⟨g', cap, cur, e, hb, hg', _⟩
  · rw [e] at hg; cases hg
  · rw [e] at hg
    injection hg with hg
    subst hg
    exact ⟨hb, (Array.getElem?_eq_some_iff.1 hg').1⟩
/-- Where a loop stands that writes one number into a row. -/
structure FillI (w0 wr : World) (base n : Nat) (v c : Value) (k : Nat) (xs : List Value) : Prop where
  gr : w0.grownBy wr v.ownBlock
  own : wr.ownsRow base 3 1 v n xs
  done : xs.take k = List.replicate k c
theorem FillI.put {w0 wr : World} {base n g cap : Nat} {c : Value} {k : Nat} {xs : List Value} (h : FillI w0 wr base n (.slice (some ⟨g, 0, none⟩) n cap) c k xs) (hk : k < n) : FillI w0 (wr.setCell ⟨g, k, none⟩ c) base n (.slice (some ⟨g, 0, none⟩) n cap) c (k + 1) (xs.set k c) := by
  have hs := World.ownsRow.stored h.own k c
  refine ⟨h.gr.trans hs.2, hs.1, ?_⟩
  have hx : xs.length = n := by have := h.own.1; omega
  rw [List.take_add_one, List.take_set_of_le (Nat.le_refl _), h.done, List.replicate_succ']
  simp [hx, hk]
theorem FillI.all {w0 wr : World} {base n : Nat} {v c : Value} {xs : List Value} (h : FillI w0 wr base n v c n xs) : wr.ownsRow base 3 1 v n (List.replicate n c) := by
  have h1 := h.done
  have h2 : xs.length = n := by have := h.own.1; omega
  rw [List.take_of_length_le (by omega)] at h1
  rw [← h1]
  exact h.own

/-- Behind the first loop. -/
def QL9 (ao : Option Addr) (cap : Nat) (l : Pts) (wv inV v : Value) (b : Nat) (t20 t21 t22 t23 t24 t25 t26 t27 t28 t29 t30 t31 t32 t33 t34 t35 t36 t37 t38 t39 t40 t41 : Value) (F : World → Prop) (a : Act) (w : World) : Prop :=
  ∃ t11 t42 t43 t44 t45 t46 t47 t48 t49 t50, a = { tmps := #[.slice ao l.length cap, undef, .bool false, .int .i64 (errL l), wv, .slice (some ⟨b, 0, none⟩) (l.length + 1) (l.length + 1), inV, v, .int .i64 (errL l), .bool true, .bool true, t11, undef, undef, undef, undef, undef, undef, undef, undef, t20, t21, t22, t23, t24, t25, t26, t27, t28, t29, t30, t31, t32, t33, t34, t35, t36, t37, t38, t39, t40, t41, t42, t43, t44, t45, t46, t47, t48, t49, t50, undef, undef, undef, undef, undef, undef, undef, undef, undef, undef, undef, undef, undef, undef, undef, undef, undef, undef, undef, undef, undef, undef, undef, undef, undef, undef, undef, undef, undef, undef, undef, undef, undef, undef, undef, undef, undef, undef, undef, undef, undef, undef, undef, undef, undef, undef, undef, undef, undef, undef, undef, undef, undef, undef, undef, undef, undef, undef, undef, undef, undef, undef, undef, undef, undef, undef, undef, undef, undef, undef, undef, undef, undef, undef, undef, undef, undef, undef, undef, undef, undef, undef, undef, undef, undef, undef, undef, undef, undef, undef, undef, undef, undef], defers := [] } ∧ F w
set_option maxHeartbeats 1600000 in
theorem loop9 (ao : Option Addr) (cap : Nat) (l : Pts) (wv inV v : Value) (b base n : Nat) (xs : List Value) (w : World) (ho : w.ownsRow base 3 1 v n xs) (hn : n ≤ 1000000) (F : World → Prop) (hF : ∀ w', w.grownBy w' v.ownBlock → w'.ownsRow base 3 1 v n (List.replicate n (.int .i64 (-1))) → F w') (t20 t21 t22 t23 t24 t25 t26 t27 t28 t29 t30 t31 t32 t33 t34 t35 t36 t37 t38 t39 t40 t41 : Value) :
    c9l.wp Try.prog (fun e a w' => e = .normal ∧ QL9 ao cap l wv inV v b t20 t21 t22 t23 t24 t25 t26 t27 t28 t29 t30 t31 t32 t33 t34 t35 t36 t37 t38 t39 t40 t41 F a w')
      { tmps := #[.slice ao l.length cap, undef, .bool false, .int .i64 (errL l), wv, .slice (some ⟨b, 0, none⟩) (l.length + 1) (l.length + 1), inV, v, .int .i64 (errL l), .bool true, .bool true, undef, undef, undef, undef, undef, undef, undef, undef, undef, t20, t21, t22, t23, t24, t25, t26, t27, t28, t29, t30, t31, t32, t33, t34, t35, t36, t37, t38, t39, t40, t41, undef, undef, undef, undef, undef, undef, undef, undef, undef, undef, undef, undef, undef, undef, undef, undef, undef, undef, undef, undef, undef, undef, undef, undef, undef, undef, undef, undef, undef, undef, undef, undef, undef, undef, undef, undef, undef, undef, undef, undef, undef, undef, undef, undef, undef, undef, undef, undef, undef, undef, undef, undef, undef, undef, undef, undef, undef, undef, undef, undef, undef, undef, undef, undef, undef, undef, undef, undef, undef, undef, undef, undef, undef, undef, undef, undef, undef, undef, undef, undef, undef, undef, undef, undef, undef, undef, undef, undef, undef, undef, undef, undef, undef, undef, undef, undef, undef, undef, undef, undef, undef, undef], defers := [] } w := by
  simp only [c9l, c9b, Try.f9]
  obtain ⟨ad, cp, hv⟩ : ∃ ad cp, v = .slice ad n cp := by
    rcases ownsRow_forms ho with ⟨h1, h2⟩ | ⟨g, cp, h1⟩
    · exact ⟨none, 0, by rw [h1, h2]⟩
    · exact ⟨_, cp, h1⟩
  have HO : Hid (FillI w w base n v (.int .i64 (-1)) 0 xs) := ⟨World.grownBy.refl _ _, ho, rfl⟩
  have HFF : Hid (∀ w', w.grownBy w' v.ownBlock → w'.ownsRow base 3 1 v n (List.replicate n (.int .i64 (-1))) → F w') := hF
  clear ho hF
  subst hv
  go_wp2_with fail
  go_loopw [11] (fun i wr => ∃ (k : Nat) (ys : List Value), i = .int .i64 (k : Int) ∧ k ≤ n ∧ Hid (FillI w wr base n (.slice ad n cp) (.int .i64 (-1)) k ys)) (fun i _ => n - (intOf i).toNat)
  case atStart => exact ⟨0, _, rfl, Nat.zero_le _, HO⟩
  case round =>
    obtain ⟨k, ys, rfl, hk, H⟩ := hrel
    rcases Nat.lt_or_ge k n with hk' | hk'
    · obtain ⟨g, cp', e⟩ := ownsRow_form H.out.own (by omega)
      injection e with e1 _ e3
      subst e1 e3
      have i0 : (0 : Int) ≤ (k : Int) := by omega
      have i1 : (k : Int) < (n : Int) := by omega
      have hw1 : IntKind.i64.wrap ((k : Int) + 1) = (k : Int) + 1 := by rw [IntKind.wrap_i64]; omega
      obtain ⟨xk, hxk⟩ : ∃ xk, ys[k]? = some xk := ⟨_, List.getElem?_eq_getElem (show k < ys.length by have := H.out.own.1; omega)⟩
      have f1 := World.ownsRow.frozenAt H.out.own k
      have f2 : wr.cell? ⟨g, k, none⟩ = some xk := (World.ownsRow.cellAt H.out.own k (by omega)).trans hxk
      have HF := H.out.put hk'
      have HF : Hid (FillI w (wr.setCell ⟨g, k, none⟩ (.int .i64 (-1))) base n (.slice (some ⟨g, 0, none⟩) n cp) (.int .i64 (-1)) (k + 1) (ys.set k (.int .i64 (-1)))) := HF
      clear hxk
      go_wp2_with fail
      go_roundw
      case rel => exact ⟨k + 1, _, by go_num, hk', HF⟩
      case measure => simp [intOf]; omega
    · have e : k = n := by omega
      subst e
      go_wp2_with fail
      exact ⟨_, _, _, _, _, _, _, _, _, _, rfl, HFF.out _ H.out.gr H.out.all⟩

/-- One number behind the other. -/
theorem push2 {wr : World} {base n : Nat} {v : Value} {xs : List Value} (x y : Int) (ho : wr.ownsRow base 3 1 v n xs) (hb : base ≤ wr.heap.size) (hn : n ≤ 1000000) :
    ∃ vk wk, (Builtin.append_ #[46, 46] 46 #[v, .slice (some ⟨wr.heap.size, 0, none⟩) 2 2]).run Try.prog (wr.alloc (.cells #[.int .i64 x, .int .i64 y] 3)) = .ok vk wk ∧ Hid (wr.grownBy wk v.ownBlock ∧ wk.ownsRow base 3 1 vk (n + 2) (xs ++ [.int .i64 x, .int .i64 y])) := by
  obtain ⟨i0, hi0, hz0, hz1, hz2⟩ := info_parts Try.info3
  obtain ⟨vk, wk, k1, k2, k3, k4⟩ := run_append_own (P := Try.prog) (wr.alloc (.cells #[.int .i64 x, .int .i64 y] 3)) base 46 46 3 i0 _ 1 8 Try.underlying46 hi0 hz0 hz1 hz2 rfl (by omega) v n xs (ho.alloc _) ⟨wr.heap.size, 0, none⟩ 2 2 [.int .i64 x, .int .i64 y] rfl
    (World.news_of_block (cs := #[.int .i64 x, .int .i64 y]) (t := 3) (fr := (0, 0)) (heap_alloc_new wr _)) (by simp [Value.oneCell']) (by unfold maxLen; omega) (by omega) (by simp; omega)
  exact ⟨vk, wk, k1, ((New.alloc wr _).but _).trans k3, k2⟩
def QS9 (ao : Option Addr) (cap : Nat) (l : Pts) (wv inV v : Value) (b : Nat) (t11 t20 t21 t22 t23 t24 t25 t26 t27 t28 t29 t30 t31 t32 t33 t34 t35 t36 t37 t38 t39 t40 t41 t42 t43 t44 t45 t46 t47 t48 t49 t50 : Value) (F : Value → World → Prop) (a : Act) (w : World) : Prop :=
  ∃ vg t51 t52 t53, a = { tmps := #[.slice ao l.length cap, undef, .bool false, .int .i64 (errL l), wv, .slice (some ⟨b, 0, none⟩) (l.length + 1) (l.length + 1), inV, v, .int .i64 (errL l), .bool true, .bool true, t11, vg, undef, undef, undef, undef, undef, undef, undef, t20, t21, t22, t23, t24, t25, t26, t27, t28, t29, t30, t31, t32, t33, t34, t35, t36, t37, t38, t39, t40, t41, t42, t43, t44, t45, t46, t47, t48, t49, t50, t51, t52, t53, undef, undef, undef, undef, undef, undef, undef, undef, undef, undef, undef, undef, undef, undef, undef, undef, undef, undef, undef, undef, undef, undef, undef, undef, undef, undef, undef, undef, undef, undef, undef, undef, undef, undef, undef, undef, undef, undef, undef, undef, undef, undef, undef, undef, undef, undef, undef, undef, undef, undef, undef, undef, undef, undef, undef, undef, undef, undef, undef, undef, undef, undef, undef, undef, undef, undef, undef, undef, undef, undef, undef, undef, undef, undef, undef, undef, undef, undef, undef, undef, undef, undef, undef, undef, undef, undef, undef, undef, undef, undef], defers := [] } ∧ F vg w
set_option maxHeartbeats 800000 in
theorem seg9 (ao : Option Addr) (cap : Nat) (l : Pts) (wv inV v : Value) (b base n : Nat) (xs : List Value) (w : World) (ho : w.ownsRow base 3 1 v n xs) (hb : base ≤ w.heap.size) (hn : n ≤ 1000000) (F : Value → World → Prop) (hF : ∀ vg w', w.grownBy w' v.ownBlock → w'.ownsRow base 3 1 vg (n + 2) (xs ++ [.int .i64 (-2), .int .i64 (-3)]) → F vg w') (t11 t20 t21 t22 t23 t24 t25 t26 t27 t28 t29 t30 t31 t32 t33 t34 t35 t36 t37 t38 t39 t40 t41 t42 t43 t44 t45 t46 t47 t48 t49 t50 : Value) :
    c9s.wp Try.prog (fun e a w' => e = .normal ∧ QS9 ao cap l wv inV v b t11 t20 t21 t22 t23 t24 t25 t26 t27 t28 t29 t30 t31 t32 t33 t34 t35 t36 t37 t38 t39 t40 t41 t42 t43 t44 t45 t46 t47 t48 t49 t50 F a w')
      { tmps := #[.slice ao l.length cap, undef, .bool false, .int .i64 (errL l), wv, .slice (some ⟨b, 0, none⟩) (l.length + 1) (l.length + 1), inV, v, .int .i64 (errL l), .bool true, .bool true, t11, undef, undef, undef, undef, undef, undef, undef, undef, t20, t21, t22, t23, t24, t25, t26, t27, t28, t29, t30, t31, t32, t33, t34, t35, t36, t37, t38, t39, t40, t41, t42, t43, t44, t45, t46, t47, t48, t49, t50, undef, undef, undef, undef, undef, undef, undef, undef, undef, undef, undef, undef, undef, undef, undef, undef, undef, undef, undef, undef, undef, undef, undef, undef, undef, undef, undef, undef, undef, undef, undef, undef, undef, undef, undef, undef, undef, undef, undef, undef, undef, undef, undef, undef, undef, undef, undef, undef, undef, undef, undef, undef, undef, undef, undef, undef, undef, undef, undef, undef, undef, undef, undef, undef, undef, undef, undef, undef, undef, undef, undef, undef, undef, undef, undef, undef, undef, undef, undef, undef, undef, undef, undef, undef, undef, undef, undef, undef, undef, undef, undef, undef, undef], defers := [] } w := by
  simp only [c9s, c9c, c9b, Try.f9]
  obtain ⟨vk, wk, k1, R⟩ := push2 (-2) (-3) ho hb hn
  have HFF : Hid (F vk wk) := hF vk wk R.out.1 R.out.2
  clear ho hF R
  go_wp2_with (first | (at_builtin; refine Go.Lib.wpList_append_run _ rfl _ _ 46 46 rfl _ _ rfl rfl vk wk k1 ?_) | go_in)
  exact ⟨_, _, _, _, rfl, HFF.out⟩

end Go.Proofs.Ytgeoffpcmkofkaa
