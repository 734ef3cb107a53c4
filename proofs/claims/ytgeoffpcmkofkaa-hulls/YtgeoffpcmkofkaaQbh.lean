/- Ms; Mt; Mu; Mv: texts laid into one. -/
import Derived.Test.YtgeoffpcmkofkaaQbg
import Derived.Test.YtgeoffpcmkofkaaQap
import Derived.Lib.SmallJoins
/- For Hulls: what stands between its calls. -/
namespace Go.Proofs.Ytgeoffpcmkofkaa
open Go Go.Conc Go.RowKit Fl Go.Maps Go.Joins
set_option maxRecDepth 100000

/-- What plumb.Hull answers. -/
def ansL (l : Pts) : List Nat := if errL l = 0 then refHull l else []
theorem ansL_len (l : Pts) : (ansL l).length ≤ 40 := by
  unfold ansL
  split
  · rename_i h
    have := refHull_len l
    have := (errL_zero h).1
    omega
  · simp
/-- plumb.Hull, told once. -/
theorem A.hullA {Post : Value → World → Prop} {lv : Value} {l : Pts} {w : World} {x : Frame} {cs : List Frame} (hlv : RowL w lv l) (hG : GN ≤ w.heap.size)
    (h : ∀ v w', Kept w w' → OwnN w' w.heap.size v (ansL l) → A Try.prog Post (x.finish (.tuple #[v, .int .i64 (errL l)])) cs w') :
    A Try.prog Post (Frame.enter Try.prog 32 #[lv] .normal) (x :: cs) w := by
  refine A.hull hlv hG (fun he w' hk => h _ w' hk ?_) (fun he v w' hO => ?_)
  · unfold ansL
    rw [if_neg he]
    exact OwnN.nil _ _
  · have := h v w' hO.kept (by
      unfold ansL OwnN
      rw [if_pos he]
      have e := refHull_same (errL_zero he).2
      have r := hO.row
      rw [e] at r
      simpa using r)
    rw [he] at this
    exact this
theorem OwnN.ints {w : World} {base : Nat} {v : Value} {cs : List Nat} (h : OwnN w base v cs) : ∃ ao c, v = .slice ao (cs.map fun (n : Nat) => (n : Int)).length c ∧ IntsAt w ao (cs.map fun (n : Nat) => (n : Int)) := by
  rcases h.form with ⟨e, e2⟩ | ⟨g, cap, e, _, _⟩
  · subst e2
    exact ⟨none, 0, e, fun h0 => by simp at h0⟩
  · refine ⟨_, cap, by rw [List.length_map]; exact e, fun _ => ⟨g, rfl, fun i x hx => ?_⟩⟩
    subst e
    rw [List.getElem?_map] at hx
    obtain ⟨n, hn, rfl⟩ := Option.map_eq_some_iff.1 hx
    exact h.nums i n hn
/-- The blocks below a bound are kept. -/
structure KeptTo (N : Nat) (w w' : World) : Prop where
  os : w'.os = w.os
  output : w'.output = w.output
  size : w.heap.size ≤ w'.heap.size
  block : ∀ r, r < N → w'.heap[r]? = w.heap[r]?
theorem KeptTo.refl (N : Nat) (w : World) : KeptTo N w w := ⟨rfl, rfl, Nat.le_refl _, fun _ _ => rfl⟩
theorem KeptTo.trans {N : Nat} {w w1 w2 : World} (h : KeptTo N w w1) (k : KeptTo N w1 w2) : KeptTo N w w2 := ⟨k.os.trans h.os, k.output.trans h.output, Nat.le_trans h.size k.size, fun r hr => (k.block r hr).trans (h.block r hr)⟩
theorem Kept.to {N : Nat} {w w' : World} (h : Kept w w') (hN : N ≤ w.heap.size) : KeptTo N w w' := ⟨h.os, h.output, h.size, fun r hr => h.block r (by omega)⟩
theorem KeptTo.same {N : Nat} {w w1 w2 : World} (h : KeptTo N w w1) (k : Same w1 w2) : KeptTo N w w2 := h.trans ⟨k.os, k.output, by rw [k.heap]; exact Nat.le_refl _, fun r _ => by rw [k.heap]⟩
theorem KeptTo.grown {N : Nat} {w w' : World} {row : Option Nat} (h : w.grownBy w' row) (hN : N ≤ w.heap.size) (hr : ∀ g, row = some g → N ≤ g) : KeptTo N w w' :=
  ⟨h.os, h.output, h.size, fun r hr' => h.block r (by omega) fun e => by have := hr r e.symm; omega⟩
theorem KeptTo.kept {N : Nat} {W w w' : World} (h : Kept W w) (k : KeptTo N w w') (hN : W.heap.size ≤ N) : Kept W w' :=
  ⟨k.os.trans h.os, k.output.trans h.output, Nat.le_trans h.size k.size, fun r hr => (k.block r (by omega)).trans (h.block r hr)⟩
theorem OwnN.to {w w' : World} {base N : Nat} {v : Value} {cs : List Nat} (h : OwnN w base v cs) (k : KeptTo N w w') (hN : ∀ g, v.ownBlock = some g → g < N) : OwnN w' base v cs := by
  refine ⟨h.1, ?_⟩
  rcases h.2 with ⟨e, hn⟩ | ⟨g, cap, cur, e, hb, hg, rest⟩
  · exact .inl ⟨e, hn⟩
  · exact .inr ⟨g, cap, cur, e, hb, by rw [k.block g (hN g (by rw [e]; rfl))]; exact hg, rest⟩
theorem OwnN.lt {w : World} {base : Nat} {v : Value} {cs : List Nat} (h : OwnN w base v cs) : ∀ g, v.ownBlock = some g → base ≤ g ∧ g < w.heap.size := by
  intro g hg
  rcases h.form with ⟨e, _⟩ | ⟨g', cap, e, h1, h2⟩
  · rw [e] at hg; cases hg
  · rw [e] at hg
    injection hg with hg
    subst hg
    exact ⟨h1, h2⟩
theorem OwnN.le {w : World} {base base' : Nat} {v : Value} {cs : List Nat} (h : OwnN w base v cs) (hb : base' ≤ base) : OwnN w base' v cs := ownsRow_le h hb
theorem PolyAt.keptB {w w' : World} {ao : Option Addr} {l : Pts} (h : PolyAt w ao l) (k : Kept w w') : PolyAt w' ao l := fun h0 => by
  obtain ⟨g, off, h1, h2, h3⟩ := h h0
  exact ⟨g, off, h1, h2.heap (k.block g h3), Nat.lt_of_lt_of_le h3 k.size⟩
/-- What stands behind 'lent'. -/
structure S9 (W : World) (ao : Option Addr) (cap : Nat) (l : Pts) (wv inV : Value) (b N : Nat) (w : World) : Prop where
  kept : Kept W w
  n1 : W.heap.size ≤ N
  n2 : N ≤ w.heap.size
  b2 : b < N
  gb : GN ≤ b
  want : OwnN w W.heap.size wv (ansL l)
  wantN : ∀ g, wv.ownBlock = some g → g < N
  blk : w.heap[b]? = some (.cells (flatP (l ++ [(0, 0)])).toArray 23 (0, 0))
  inF : (inV = .slice none 0 0 ∧ l = []) ∨ inV = .slice (some ⟨b, 0, none⟩) l.length (l.length + 1)
  poly : PolyAt W ao l
  cap1 : l.length ≤ cap
  cap2 : cap ≤ 10000000000000
section
variable {W : World} {ao : Option Addr} {cap : Nat} {l : Pts} {wv inV : Value} {b N : Nat} {w w' : World}
theorem S9.to (h : S9 W ao cap l wv inV b N w) (k : KeptTo N w w') : S9 W ao cap l wv inV b N w' :=
  ⟨k.kept h.kept h.n1, h.n1, Nat.le_trans h.n2 k.size, h.b2, h.gb, h.want.to k h.wantN, h.wantN, by rw [k.block b h.b2]; exact h.blk, h.inF, h.poly, h.cap1, h.cap2⟩
theorem S9.all (h : S9 W ao cap l wv inV b N w) : PtsAt w b 0 (l ++ [(0, 0)]) := pts_row h.blk rfl
theorem S9.args (h : S9 W ao cap l wv inV b N w) : PolyAt w ao l := h.poly.keptB h.kept
theorem flatP_ints : ∀ (l : Pts), ∀ x ∈ flatP l, ∃ n, x = .int .i64 n
  | [], x, h => by simp [flatP] at h
  | p :: l, x, h => by
    simp only [flatP, List.mem_cons] at h
    rcases h with rfl | rfl | h
    · exact ⟨_, rfl⟩
    · exact ⟨_, rfl⟩
    · exact flatP_ints l x h
theorem S9.row (h : S9 W ao cap l wv inV b N w) : RowL w inV l := by
  rcases h.inF with ⟨h1, h2⟩ | h1
  · exact .inl ⟨h1, h2⟩
  · refine .inr ⟨b, l.length + 1, _, h1, by omega, h.blk, fun x hx => flatP_ints _ x (by simpa using hx), h.gb, fun i hi => ?_⟩
    have := flatP_get (l ++ [(0, 0)]) i (by simp; omega)
    rw [List.getElem_append_left hi] at this
    simpa using this
end
/-- 'lent', of any list. -/
theorem lent_poly (ao : Option Addr) (cap : Nat) (l : Pts) (w : World) (h : PolyAt w ao l) (hs : cap ≤ 10000000000000) (hc : l.length ≤ cap) (hn : ao = none → cap = 0) :
    Calls Try.prog 26 #[.slice ao l.length cap] w fun e w' => ∃ inV, e = .returned (.tuple #[.slice (some ⟨w.heap.size, 0, none⟩) (l.length + 1) (l.length + 1), inV]) ∧ ((inV = .slice none 0 0 ∧ l = []) ∨ inV = .slice (some ⟨w.heap.size, 0, none⟩) l.length (l.length + 1)) ∧ Hid (Lent w w' l) := by
  cases ao with
  | none =>
    have hcap := hn rfl
    have hl : l = [] := List.eq_nil_of_length_eq_zero (by omega)
    subst hl hcap
    refine (lent_nil w).mono ?_
    rintro e w' ⟨rfl, H⟩
    exact ⟨_, rfl, .inl ⟨rfl, rfl⟩, H⟩
  | some a =>
    refine (lent_some a cap l w h hs hc).mono ?_
    rintro e w' ⟨rfl, H⟩
    exact ⟨_, rfl, .inr rfl, H⟩
theorem Lent.heap {w w1 w2 : World} {l : Pts} (h : Lent w w1 l) (k : Same w1 w2) : w2.heap[w.heap.size]? = some (.cells (flatP (l ++ [(0, 0)])).toArray 23 (0, 0)) := by rw [k.heap]; exact h.row
end Go.Proofs.Ytgeoffpcmkofkaa
/- The walk of Hulls, beside goroutines that only leave. (Made by gen9.py.) -/
namespace Go.Proofs.Ytgeoffpcmkofkaa
open Go Go.Conc Go.RowKit Fl Go.Maps Go.Lib Go.Joins
set_option maxRecDepth 100000
attribute [local go_sem ↓] Go.wp_at_zero Go.wp_at_succ

noncomputable def c9b : Code := match Try.f9.body with
  | some (.seq _ (.seq _ (.seq _ (.seq _ r)))) => r
  | _ => .skip
noncomputable def c9l : Code := match c9b with
  | .seq _ (.seq _ (.seq _ (.seq _ (.seq r _)))) => r
  | _ => .skip
noncomputable def c9c : Code := match c9b with
  | .seq _ (.seq _ (.seq _ (.seq _ (.seq _ r)))) => r
  | _ => .skip
noncomputable def c9s : Code := match c9c with
  | .seq r _ => r
  | _ => .skip
noncomputable def c9d : Code := match c9c with
  | .seq _ r => r
  | _ => .skip
noncomputable def c9r : Code := match c9d with
  | .seq _ r => r
  | _ => .skip
theorem codeP9l : CodeP Try.prog (FSof fsI) c9l := codeP_sound (by kernel_rfl)
theorem codeP9s : CodeP Try.prog (FSof fsI) c9s := codeP_sound (by kernel_rfl)
theorem codeP9r : CodeP Try.prog (FSof fsI) c9r := codeP_sound (by kernel_rfl)
theorem fs30 : FSof fsI 30 := by decide
theorem fs31 : FSof fsI 31 := by decide
theorem fs26 : FSof fsI 26 := by decide
theorem fs28 : FSof fsI 28 := by decide
theorem fs33 : FSof fsI 33 := by decide
theorem OwnN.same {w w' : World} {base : Nat} {v : Value} {cs : List Nat} (h : OwnN w base v cs) (k : Same w w') : OwnN w' base v cs := by
  refine ⟨h.1, ?_⟩
  rcases h.2 with ⟨e, hn⟩ | ⟨g, cap, cur, e, hb, hg, rest⟩
  · exact .inl ⟨e, hn⟩
  · exact .inr ⟨g, cap, cur, e, hb, by rw [k.heap]; exact hg, rest⟩
theorem ownsRow_to {w w' : World} {base N n size : Nat} {e : TypeId} {v : Value} {xs : List Value} (h : w.ownsRow base e size v n xs) (k : KeptTo N w w') (hN : ∀ g, v.ownBlock = some g → g < N) : w'.ownsRow base e size v n xs := by
  refine ⟨h.1, ?_⟩
  rcases h.2 with ⟨e, hn⟩ | ⟨g, cap, cur, e, hb, hg, rest⟩
  · exact .inl ⟨e, hn⟩
  · exact .inr ⟨g, cap, cur, e, hb, by rw [k.block g (hN g (by rw [e]; rfl))]; exact hg, rest⟩
theorem ownsRow_same {w w' : World} {base n size : Nat} {e : TypeId} {v : Value} {xs : List Value} (h : w.ownsRow base e size v n xs) (k : Same w w') : w'.ownsRow base e size v n xs := by
  refine ⟨h.1, ?_⟩
  rcases h.2 with ⟨e, hn⟩ | ⟨g, cap, cur, e, hb, hg, rest⟩
  · exact .inl ⟨e, hn⟩
  · exact .inr ⟨g, cap, cur, e, hb, by rw [k.heap]; exact hg, rest⟩
theorem ownsRow_blk {w : World} {base n size : Nat} {e : TypeId} {v : Value} {xs : List Value} (h : w.ownsRow base e size v n xs) : ∀ g, v.ownBlock = some g → base ≤ g ∧ g < w.heap.size := by
  intro g hg
  rcases h.2 with ⟨e, _⟩ | ⟨g', cap, cur, e, hb, hg', _⟩
  · rw [e] at hg; cases hg
  · rw [e] at hg
    injection hg with hg
    subst hg
    exact ⟨hb, (Array.getElem?_eq_some_iff.1 hg').1⟩
/-- Where a loop stands that writes one number into a row. -/
structure FillI (w0 wr : World) (base n : Nat) (v c : Value) (k : Nat) (xs : List Value) : Prop where
  gr : w0.grownBy wr v.ownBlock
  own : wr.ownsRow base 3 1 v n xs
  done : xs.take k = List.replicate k c
theorem FillI.put {w0 wr : World} {base n g cap : Nat} {c : Value} {k : Nat} {xs : List Value} (h : FillI w0 wr base n (.slice (some ⟨g, 0, none⟩) n cap) c k xs) (hk : k < n) : FillI w0 (wr.setCell ⟨g, k, none⟩ c) base n (.slice (some ⟨g, 0, none⟩) n cap) c (k + 1) (xs.set k c) := by
  have hs := World.ownsRow.stored h.own k c
  refine ⟨h.gr.trans hs.2, hs.1, ?_⟩
  have hx : xs.length = n := by have := h.own.1; omega
  rw [List.take_add_one, List.take_set_of_le (Nat.le_refl _), h.done, List.replicate_succ']
  simp [hx, hk]
theorem FillI.all {w0 wr : World} {base n : Nat} {v c : Value} {xs : List Value} (h : FillI w0 wr base n v c n xs) : wr.ownsRow base 3 1 v n (List.replicate n c) := by
  have h1 := h.done
  have h2 : xs.length = n := by have := h.own.1; omega
  rw [List.take_of_length_le (by omega)] at h1
  rw [← h1]
  exact h.own

/-- Behind the first loop. -/
def QL9 (ao : Option Addr) (cap : Nat) (l : Pts) (wv inV v : Value) (b : Nat) (t20 t21 t22 t23 t24 t25 t26 t27 t28 t29 t30 t31 t32 t33 t34 t35 t36 t37 t38 t39 t40 t41 : Value) (F : World → Prop) (a : Act) (w : World) : Prop :=
  ∃ t11 t42 t43 t44 t45 t46 t47 t48 t49 t50, a = { tmps := #[.slice ao l.length cap, undef, .bool false, .int .i64 (errL l), wv, .slice (some ⟨b, 0, none⟩) (l.length + 1) (l.length + 1), inV, v, .int .i64 (errL l), .bool true, .bool true, t11, undef, undef, undef, undef, undef, undef, undef, undef, t20, t21, t22, t23, t24, t25, t26, t27, t28, t29, t30, t31, t32, t33, t34, t35, t36, t37, t38, t39, t40, t41, t42, t43, t44, t45, t46, t47, t48, t49, t50, undef, undef, undef, undef, undef, undef, undef, undef, undef, undef, undef, undef, undef, undef, undef, undef, undef, undef, undef, undef, undef, undef, undef, undef, undef, undef, undef, undef, undef, undef, undef, undef, undef, undef, undef, undef, undef, undef, undef, undef, undef, undef, undef, undef, undef, undef, undef, undef, undef, undef, undef, undef, undef, undef, undef, undef, undef, undef, undef, undef, undef, undef, undef, undef, undef, undef, undef, undef, undef, undef, undef, undef, undef, undef, undef, undef, undef, undef, undef, undef, undef, undef, undef, undef, undef, undef, undef, undef, undef, undef, undef, undef, undef], defers := [] } ∧ F w
set_option maxHeartbeats 1600000 in
theorem loop9 (ao : Option Addr) (cap : Nat) (l : Pts) (wv inV v : Value) (b base n : Nat) (xs : List Value) (w : World) (ho : w.ownsRow base 3 1 v n xs) (hn : n ≤ 1000000) (F : World → Prop) (hF : ∀ w', w.grownBy w' v.ownBlock → w'.ownsRow base 3 1 v n (List.replicate n (.int .i64 (-1))) → F w') (t20 t21 t22 t23 t24 t25 t26 t27 t28 t29 t30 t31 t32 t33 t34 t35 t36 t37 t38 t39 t40 t41 : Value) :
    c9l.wp Try.prog (fun e a w' => e = .normal ∧ QL9 ao cap l wv inV v b t20 t21 t22 t23 t24 t25 t26 t27 t28 t29 t30 t31 t32 t33 t34 t35 t36 t37 t38 t39 t40 t41 F a w')
      { tmps := #[.slice ao l.length cap, undef, .bool false, .int .i64 (errL l), wv, .slice (some ⟨b, 0, none⟩) (l.length + 1) (l.length + 1), inV, v, .int .i64 (errL l), .bool true, .bool true, undef, undef, undef, undef, undef, undef, undef, undef, undef, t20, t21, t22, t23, t24, t25, t26, t27, t28, t29, t30, t31, t32, t33, t34, t35, t36, t37, t38, t39, t40, t41, undef, undef, undef, undef, undef, undef, undef, undef, undef, undef, undef, undef, undef, undef, undef, undef, undef, undef, undef, undef, undef, undef, undef, undef, undef, undef, undef, undef, undef, undef, undef, undef, undef, undef, undef, undef, undef, undef, undef, undef, undef, undef, undef, undef, undef, undef, undef, undef, undef, undef, undef, undef, undef, undef, undef, undef, undef, undef, undef, undef, undef, undef, undef, undef, undef, undef, undef, undef, undef, undef, undef, undef, undef, undef, undef, undef, undef, undef, undef, undef, undef, undef, undef, undef, undef, undef, undef, undef, undef, undef, undef, undef, undef, undef, undef, undef, undef, undef, undef, undef, undef, undef], defers := [] } w := by
  simp only [c9l, c9b, Try.f9]
  obtain ⟨ad, cp, hv⟩ : ∃ ad cp, v = .slice ad n cp := by
    rcases ownsRow_forms ho with ⟨h1, h2⟩ | ⟨g, cp, h1⟩
    · exact ⟨none, 0, by rw [h1, h2]⟩
    · exact ⟨_, cp, h1⟩
  have HO : Hid (FillI w w base n v (.int .i64 (-1)) 0 xs) := ⟨World.grownBy.refl _ _, ho, rfl⟩
  have HFF : Hid (∀ w', w.grownBy w' v.ownBlock → w'.ownsRow base 3 1 v n (List.replicate n (.int .i64 (-1))) → F w') := hF
  clear ho hF
  subst hv
  go_wp2_with fail
  go_loopw [11] (fun i wr => ∃ (k : Nat) (ys : List Value), i = .int .i64 (k : Int) ∧ k ≤ n ∧ Hid (FillI w wr base n (.slice ad n cp) (.int .i64 (-1)) k ys)) (fun i _ => n - (intOf i).toNat)
  case atStart => exact ⟨0, _, rfl, Nat.zero_le _, HO⟩
  case round =>
    obtain ⟨k, ys, rfl, hk, H⟩ := hrel
    rcases Nat.lt_or_ge k n with hk' | hk'
    · obtain ⟨g, cp', e⟩ := ownsRow_form H.out.own (by omega)
      injection e with e1 _ e3
      subst e1 e3
      have i0 : (0 : Int) ≤ (k : Int) := by omega
      have i1 : (k : Int) < (n : Int) := by omega
      have hw1 : IntKind.i64.wrap ((k : Int) + 1) = (k : Int) + 1 := by rw [IntKind.wrap_i64]; omega
      obtain ⟨xk, hxk⟩ : ∃ xk, ys[k]? = some xk := ⟨_, List.getElem?_eq_getElem (show k < ys.length by have := H.out.own.1; omega)⟩
      have f1 := World.ownsRow.frozenAt H.out.own k
      have f2 : wr.cell? ⟨g, k, none⟩ = some xk := (World.ownsRow.cellAt H.out.own k (by omega)).trans hxk
      have HF := H.out.put hk'
      have HF : Hid (FillI w (wr.setCell ⟨g, k, none⟩ (.int .i64 (-1))) base n (.slice (some ⟨g, 0, none⟩) n cp) (.int .i64 (-1)) (k + 1) (ys.set k (.int .i64 (-1)))) := HF
      clear hxk
      go_wp2_with fail
      go_roundw
      case rel => exact ⟨k + 1, _, by go_num, hk', HF⟩
      case measure => simp [intOf]; omega
    · have e : k = n := by omega
      subst e
      go_wp2_with fail
      exact ⟨_, _, _, _, _, _, _, _, _, _, rfl, HFF.out _ H.out.gr H.out.all⟩

/-- One number behind the other. -/
theorem push2 {wr : World} {base n : Nat} {v : Value} {xs : List Value} (x y : Int) (ho : wr.ownsRow base 3 1 v n xs) (hb : base ≤ wr.heap.size) (hn : n ≤ 1000000) :
    ∃ vk wk, (Builtin.append_ #[46, 46] 46 #[v, .slice (some ⟨wr.heap.size, 0, none⟩) 2 2]).run Try.prog (wr.alloc (.cells #[.int .i64 x, .int .i64 y] 3)) = .ok vk wk ∧ Hid (wr.grownBy wk v.ownBlock ∧ wk.ownsRow base 3 1 vk (n + 2) (xs ++ [.int .i64 x, .int .i64 y])) := by
  obtain ⟨i0, hi0, hz0, hz1, hz2⟩ := info_parts Try.info3
  obtain ⟨vk, wk, k1, k2, k3, k4⟩ := run_append_own (P := Try.prog) (wr.alloc (.cells #[.int .i64 x, .int .i64 y] 3)) base 46 46 3 i0 _ 1 8 Try.underlying46 hi0 hz0 hz1 hz2 rfl (by omega) v n xs (ho.alloc _) ⟨wr.heap.size, 0, none⟩ 2 2 [.int .i64 x, .int .i64 y] rfl
    (World.news_of_block (cs := #[.int .i64 x, .int .i64 y]) (t := 3) (fr := (0, 0)) (heap_alloc_new wr _)) (by simp [Value.oneCell']) (by unfold maxLen; omega) (by omega) (by simp; omega)
  exact ⟨vk, wk, k1, ((New.alloc wr _).but _).trans k3, k2⟩
def QS9 (ao : Option Addr) (cap : Nat) (l : Pts) (wv inV v : Value) (b : Nat) (t11 t20 t21 t22 t23 t24 t25 t26 t27 t28 t29 t30 t31 t32 t33 t34 t35 t36 t37 t38 t39 t40 t41 t42 t43 t44 t45 t46 t47 t48 t49 t50 : Value) (F : Value → World → Prop) (a : Act) (w : World) : Prop :=
  ∃ vg t51 t52 t53, a = { tmps := #[.slice ao l.length cap, undef, .bool false, .int .i64 (errL l), wv, .slice (some ⟨b, 0, none⟩) (l.length + 1) (l.length + 1), inV, v, .int .i64 (errL l), .bool true, .bool true, t11, vg, undef, undef, undef, undef, undef, undef, undef, t20, t21, t22, t23, t24, t25, t26, t27, t28, t29, t30, t31, t32, t33, t34, t35, t36, t37, t38, t39, t40, t41, t42, t43, t44, t45, t46, t47, t48, t49, t50, t51, t52, t53, undef, undef, undef, undef, undef, undef, undef, undef, undef, undef, undef, undef, undef, undef, undef, undef, undef, undef, undef, undef, undef, undef, undef, undef, undef, undef, undef, undef, undef, undef, undef, undef, undef, undef, undef, undef, undef, undef, undef, undef, undef, undef, undef, undef, undef, undef, undef, undef, undef, undef, undef, undef, undef, undef, undef, undef, undef, undef, undef, undef, undef, undef, undef, undef, undef, undef, undef, undef, undef, undef, undef, undef, undef, undef, undef, undef, undef, undef, undef, undef, undef, undef, undef, undef, undef, undef, undef, undef, undef, undef], defers := [] } ∧ F vg w
set_option maxHeartbeats 800000 in
theorem seg9 (ao : Option Addr) (cap : Nat) (l : Pts) (wv inV v : Value) (b base n : Nat) (xs : List Value) (w : World) (ho : w.ownsRow base 3 1 v n xs) (hb : base ≤ w.heap.size) (hn : n ≤ 1000000) (F : Value → World → Prop) (hF : ∀ vg w', w.grownBy w' v.ownBlock → w'.ownsRow base 3 1 vg (n + 2) (xs ++ [.int .i64 (-2), .int .i64 (-3)]) → F vg w') (t11 t20 t21 t22 t23 t24 t25 t26 t27 t28 t29 t30 t31 t32 t33 t34 t35 t36 t37 t38 t39 t40 t41 t42 t43 t44 t45 t46 t47 t48 t49 t50 : Value) :
    c9s.wp Try.prog (fun e a w' => e = .normal ∧ QS9 ao cap l wv inV v b t11 t20 t21 t22 t23 t24 t25 t26 t27 t28 t29 t30 t31 t32 t33 t34 t35 t36 t37 t38 t39 t40 t41 t42 t43 t44 t45 t46 t47 t48 t49 t50 F a w')
      { tmps := #[.slice ao l.length cap, undef, .bool false, .int .i64 (errL l), wv, .slice (some ⟨b, 0, none⟩) (l.length + 1) (l.length + 1), inV, v, .int .i64 (errL l), .bool true, .bool true, t11, undef, undef, undef, undef, undef, undef, undef, undef, t20, t21, t22, t23, t24, t25, t26, t27, t28, t29, t30, t31, t32, t33, t34, t35, t36, t37, t38, t39, t40, t41, t42, t43, t44, t45, t46, t47, t48, t49, t50, undef, undef, undef, undef, undef, undef, undef, undef, undef, undef, undef, undef, undef, undef, undef, undef, undef, undef, undef, undef, undef, undef, undef, undef, undef, undef, undef, undef, undef, undef, undef, undef, undef, undef, undef, undef, undef, undef, undef, undef, undef, undef, undef, undef, undef, undef, undef, undef, undef, undef, undef, undef, undef, undef, undef, undef, undef, undef, undef, undef, undef, undef, undef, undef, undef, undef, undef, undef, undef, undef, undef, undef, undef, undef, undef, undef, undef, undef, undef, undef, undef, undef, undef, undef, undef, undef, undef, undef, undef, undef, undef, undef, undef], defers := [] } w := by
  simp only [c9s, c9c, c9b, Try.f9]
  obtain ⟨vk, wk, k1, R⟩ := push2 (-2) (-3) ho hb hn
  have HFF : Hid (F vk wk) := hF vk wk R.out.1 R.out.2
  clear ho hF R
  go_wp2_with (first | (at_builtin; refine Go.Lib.wpList_append_run _ rfl _ _ 46 46 rfl _ _ rfl rfl vk wk k1 ?_) | go_in)
  exact ⟨_, _, _, _, rfl, HFF.out⟩

end Go.Proofs.Ytgeoffpcmkofkaa
/- The end of Hulls. (Made by gen9.py.) -/
namespace Go.Proofs.Ytgeoffpcmkofkaa
open Go Go.Conc Go.RowKit Fl Go.Maps Go.Lib Go.Joins
set_option maxRecDepth 100000
attribute [local go_sem ↓] Go.wp_at_zero Go.wp_at_succ

theorem rep_get {n k : Nat} {c : Value} {r : List Value} (h : k < n) : (List.replicate n c ++ r)[k]? = some c := by
  rw [List.getElem?_append_left (by simpa using h)]
  simp [h]
theorem rep_last {n : Nat} {c x y : Value} : (List.replicate n c ++ [x, y])[n + 1]? = some y := by
  rw [List.getElem?_append_right (by simp)]
  simp
set_option maxHeartbeats 3200000 in
theorem rest9 (W : World) (ao : Option Addr) (cap : Nat) (l : Pts) (wv inV v vg vk : Value) (b N B : Nat) (w : World) (hS : S9 W ao cap l wv inV b N w) (hNB : N ≤ B)
    (hg : w.ownsRow N 3 1 vg ((ansL l).length + 2) (List.replicate (ansL l).length (.int .i64 (-1)) ++ [.int .i64 (-2), .int .i64 (-3)])) (hgB : ∀ g, vg.ownBlock = some g → g < B) (hB : B ≤ w.heap.size) (hk : OwnN w B vk (ansL l)) (t11 t20 t21 t22 t23 t24 t25 t26 t27 t28 t29 t30 t31 t32 t33 t34 t35 t36 t37 t38 t39 t40 t41 t42 t43 t44 t45 t46 t47 t48 t49 t50 t51 t52 t53 t54 t55 t56 t57 t58 : Value) :
    c9r.wp Try.prog (fun e a w' => (e = .normal ∨ e = .ret) ∧ a.tmps.getD 2 undef = .bool true ∧ Hid (Kept W w'))
      { tmps := #[.slice ao l.length cap, undef, .bool false, .int .i64 (errL l), wv, .slice (some ⟨b, 0, none⟩) (l.length + 1) (l.length + 1), inV, v, .int .i64 (errL l), .bool true, .bool true, t11, vg, vk, .int .i64 (errL l), undef, undef, undef, undef, undef, t20, t21, t22, t23, t24, t25, t26, t27, t28, t29, t30, t31, t32, t33, t34, t35, t36, t37, t38, t39, t40, t41, t42, t43, t44, t45, t46, t47, t48, t49, t50, t51, t52, t53, t54, t55, t56, t57, t58, undef, undef, undef, undef, undef, undef, undef, undef, undef, undef, undef, undef, undef, undef, undef, undef, undef, undef, undef, undef, undef, undef, undef, undef, undef, undef, undef, undef, undef, undef, undef, undef, undef, undef, undef, undef, undef, undef, undef, undef, undef, undef, undef, undef, undef, undef, undef, undef, undef, undef, undef, undef, undef, undef, undef, undef, undef, undef, undef, undef, undef, undef, undef, undef, undef, undef, undef, undef, undef, undef, undef, undef, undef, undef, undef, undef, undef, undef, undef, undef, undef, undef, undef, undef, undef], defers := [] } w := by
  simp only [c9r, c9d, c9c, c9b, Try.f9]
  have hlen := ansL_len l
  obtain ⟨n, hn⟩ : ∃ n, n = (ansL l).length := ⟨_, rfl⟩
  obtain ⟨a2, c2, e2, hI2⟩ := hk.ints
  obtain ⟨aw, cw, e4, hIw⟩ := hS.want.ints
  obtain ⟨gg, cg, eg⟩ := ownsRow_form hg (by omega)
  have hx : ((ansL l).map fun (n : Nat) => (n : Int)).length = n := by rw [List.length_map, hn]
  rw [hx] at e2 e4
  rw [← hn] at hg eg hlen
  have HI : Hid (IntsAt w a2 ((ansL l).map fun (n : Nat) => (n : Int)) ∧ IntsAt w aw ((ansL l).map fun (n : Nat) => (n : Int))) := ⟨hI2, hIw⟩
  have HK : Hid (w.ownsRow B 3 1 (.slice a2 n c2) n ((ansL l).map fun (n : Nat) => Value.int .i64 (n : Int))) := by rw [← e2, hn]; exact hk
  have HS : Hid (S9 W ao cap l wv inV b N w ∧ N ≤ B ∧ B ≤ w.heap.size ∧ (∀ g, vg.ownBlock = some g → g < B)) := ⟨hS, hNB, hB, hgB⟩
  have HG : Hid (w.ownsRow N 3 1 vg (n + 2) (List.replicate n (.int .i64 (-1)) ++ [.int .i64 (-2), .int .i64 (-3)])) := hg
  have HX : Hid (((ansL l).map fun (n : Nat) => (n : Int)).length = n) := hx
  clear hI2 hIw hk hS hg hNB hB hgB hx hn
  subst e2 e4 eg
  go_wp2_with fail
  have hcall := sameInts_eq a2 aw c2 cw ((ansL l).map fun (n : Nat) => (n : Int)) w HI.out.1 HI.out.2 (by rw [HX.out]; omega)
  rw [HX.out] at hcall
  refine hcall.mono ?_
  rintro e w1 ⟨rfl, H1⟩
  clear hcall
  have H0 : Hid (FillI w1 w1 B n (.slice a2 n c2) (.int .i64 (-4)) 0 ((ansL l).map fun (n : Nat) => Value.int .i64 (n : Int))) := ⟨World.grownBy.refl _ _, World.ownsRow.kept HK.out H1.out (by cases (Value.slice a2 n c2).ownBlock <;> simp), rfl⟩
  go_wp2_with fail
  go_loopw [16] (fun i wr => ∃ (k : Nat) (ys : List Value), i = .int .i64 (k : Int) ∧ k ≤ n ∧ Hid (FillI w1 wr B n (.slice a2 n c2) (.int .i64 (-4)) k ys)) (fun i _ => n - (intOf i).toNat)
  case atStart => exact ⟨0, _, rfl, Nat.zero_le _, H0⟩
  case round =>
    obtain ⟨k, ys, rfl, hk, H⟩ := hrel
    rcases Nat.lt_or_ge k n with hk' | hk'
    · obtain ⟨g, cp', e⟩ := ownsRow_form H.out.own (by omega)
      injection e with e1 _ e3
      subst e1 e3
      have i0 : (0 : Int) ≤ (k : Int) := by omega
      have i1 : (k : Int) < (n : Int) := by omega
      have hw1 : IntKind.i64.wrap ((k : Int) + 1) = (k : Int) + 1 := by rw [IntKind.wrap_i64]; omega
      obtain ⟨xk, hxk⟩ : ∃ xk, ys[k]? = some xk := ⟨_, List.getElem?_eq_getElem (show k < ys.length by have := H.out.own.1; omega)⟩
      have f1 := World.ownsRow.frozenAt H.out.own k
      have f2 : wr.cell? ⟨g, k, none⟩ = some xk := (World.ownsRow.cellAt H.out.own k (by omega)).trans hxk
      have HF := H.out.put hk'
      have HF : Hid (FillI w1 (wr.setCell ⟨g, k, none⟩ (.int .i64 (-4))) B n (.slice (some ⟨g, 0, none⟩) n c2) (.int .i64 (-4)) (k + 1) (ys.set k (.int .i64 (-4)))) := HF
      clear hxk
      go_wp2_with fail
      go_roundw
      case rel => exact ⟨k + 1, _, by go_num, hk', HF⟩
      case measure => simp [intOf]; omega
    · have e : k = n := by omega
      subst e
      have hsz : w.heap.size ≤ wr.heap.size := Nat.le_trans H1.out.size H.out.gr.size
      obtain ⟨vj, wj, k1, R⟩ := push2 (-5) (-6) H.out.all (by have := HS.out.2.2.1; omega) (by omega)
      have HT : Hid (KeptTo B w wj) := ((KeptTo.grown H1.out (HS.out.2.2.1) (by simp)).trans (KeptTo.grown H.out.gr (Nat.le_trans HS.out.2.2.1 H1.out.size) fun g hg => (ownsRow_blk HK.out g hg).1)).trans (KeptTo.grown R.out.1 (Nat.le_trans HS.out.2.2.1 hsz) fun g hg => (ownsRow_blk HK.out g hg).1)
      have HSj : Hid (S9 W ao cap l (.slice aw k cw) inV b N wj) := HS.out.1.to ⟨HT.out.os, HT.out.output, HT.out.size, fun r hr => HT.out.block r (by have := HS.out.2.1; omega)⟩
      have hgj := ownsRow_to HG.out HT.out HS.out.2.2.2
      obtain ⟨gj, cj, ej⟩ := ownsRow_form R.out.2 (by omega)
      have hj := R.out.2
      subst ej
      have G1 : Hid (∀ m, m < k → wj.cell? ⟨gg, m, none⟩ = some (.int .i64 (-1)) ∧ wj.cell? ⟨gj, m, none⟩ = some (.int .i64 (-4))) := fun m hm => ⟨(World.ownsRow.cellAt hgj m (by omega)).trans (rep_get hm), (World.ownsRow.cellAt hj m (by omega)).trans (rep_get hm)⟩
      have g2 : wj.cell? ⟨gg, k + 1, none⟩ = some (.int .i64 (-3)) := (World.ownsRow.cellAt hgj (k + 1) (by omega)).trans rep_last
      have g3 : wj.cell? ⟨gj, k + 1, none⟩ = some (.int .i64 (-6)) := (World.ownsRow.cellAt hj (k + 1) (by omega)).trans rep_last
      have G2 : Hid (wj.cell? ⟨gg, k + 1, none⟩ = some (.int .i64 (-3)) ∧ wj.cell? ⟨gj, k + 1, none⟩ = some (.int .i64 (-6))) := ⟨g2, g3⟩
      clear hgj hj g2 g3
      go_wp2_with (first | (at_builtin; refine Go.Lib.wpList_append_run _ rfl _ _ 46 46 rfl _ _ rfl rfl _ wj k1 ?_) | go_in)
      go_loopw [18] (fun i wr => ∃ m : Nat, i = .int .i64 (m : Int) ∧ m ≤ k + 2 ∧ wj = wr) (fun i _ => k + 2 - (intOf i).toNat)
      case atStart => exact ⟨0, rfl, Nat.zero_le _, rfl⟩
      case round =>
        obtain ⟨m, rfl, hm, rfl⟩ := hrel
        have hw1 : IntKind.i64.wrap ((m : Int) + 1) = (m : Int) + 1 := by rw [IntKind.wrap_i64]; omega
        rcases Nat.lt_or_ge m (k + 2) with hm' | hm'
        · have i1 : (m : Int) < (k : Int) + 2 := by omega
          rcases Nat.lt_or_ge m k with hmk | hmk
          · have i0 : (0 : Int) ≤ (m : Int) := by omega
            have i2 : (m : Int) < (k : Int) := by omega
            obtain ⟨x1, x2⟩ := G1.out m hmk
            go_wp2_with fail
            go_roundw
            case rel => exact ⟨m + 1, by go_num, hm', trivial⟩
            case measure => simp [intOf]; omega
          · have i2 : ¬(m : Int) < (k : Int) := by omega
            go_wp2_with fail
            go_roundw
            case rel => exact ⟨m + 1, by go_num, hm', trivial⟩
            case measure => simp [intOf]; omega
        · have e : m = k + 2 := by omega
          subst e
          go_wp2_with fail
          refine (back_any b ao cap l wj HSj.out.all HSj.out.args HSj.out.cap2 HSj.out.cap1).mono ?_
          rintro e w5 ⟨rfl, H5⟩
          have x1 := H5.out.kept' G2.out.1
          have x2 := H5.out.kept' G2.out.2
          have j1 : ¬(k : Int) + 2 < 2 := by omega
          have j2 : IntKind.i64.wrap ((k : Int) + 2 - 1) = (k : Int) + 1 := by rw [IntKind.wrap_i64]; omega
          have j3 : (0 : Int) ≤ (k : Int) + 1 := by omega
          have j4 : (k : Int) + 1 < (k : Int) + 2 := by omega
          have j5 : ((k : Int) + 1).toNat = k + 1 := by omega
          go_wp2_with fail
          exact ((HSj.out.to (KeptTo.grown H5.out HSj.out.n2 (by simp))).kept)

end Go.Proofs.Ytgeoffpcmkofkaa
/- Hulls, from its start to its end. (Made by gen9.py.) -/
namespace Go.Proofs.Ytgeoffpcmkofkaa
open Go Go.Conc Go.RowKit Fl Go.Maps Go.Lib Go.Joins
set_option maxRecDepth 100000

theorem A.leave9 {Post : Value → World → Prop} {a : Act} {todo : List Item} {w : World} (hd : a.defers = []) (h2 : a.tmps.getD 2 undef = .bool true) (h : ∀ w', Same w w' → Post (.bool true) w') : A Try.prog Post { (base 9).at a todo with mode := .returning } [] w := by
  refine A.fin (v := .bool true) fun w' hs => ⟨?_, h w' hs⟩
  have hf : Try.prog.funcs[9]? = some Try.f9 := Try.func9
  have hr : (results Try.f9 a.tmps).run Try.prog w' = .ok (.bool true) w' := by simp [results, Try.f9, ← h2]
  have he : (results Try.f9 a.tmps).events Try.prog w' #[] = #[] := by simp [results, Try.f9]
  simp [Conc.G, stepG, unwind, doReturn, Frame.at, show (base 9).kind = .normal from rfl, show (base 9).fn = 9 from rfl, hd, hf, hr, he, seen, GStep.after]
noncomputable def c9h : Code := match c9d with
  | .seq r _ => r
  | _ => .skip
theorem c9c_eq : c9c = .seq c9s c9d := rfl

set_option maxHeartbeats 2000000 in
theorem A.h9c {Post : Value → World → Prop} {W : World} {ao : Option Addr} {cap : Nat} {l : Pts} {wv inV v : Value} {b N : Nat} {w : World} (hS : S9 W ao cap l wv inV b N w) (hG : GN ≤ W.heap.size) (h : ∀ w', Kept W w' → Post (.bool true) w')
    (hv : w.ownsRow N 3 1 v (ansL l).length (List.replicate (ansL l).length (.int .i64 (-1)))) (t11 t20 t21 t22 t23 t24 t25 t26 t27 t28 t29 t30 t31 t32 t33 t34 t35 t36 t37 t38 t39 t40 t41 t42 t43 t44 t45 t46 t47 t48 t49 t50 : Value) :
    A Try.prog Post ((base 9).at { tmps := #[.slice ao l.length cap, undef, .bool false, .int .i64 (errL l), wv, .slice (some ⟨b, 0, none⟩) (l.length + 1) (l.length + 1), inV, v, .int .i64 (errL l), .bool true, .bool true, t11, undef, undef, undef, undef, undef, undef, undef, undef, t20, t21, t22, t23, t24, t25, t26, t27, t28, t29, t30, t31, t32, t33, t34, t35, t36, t37, t38, t39, t40, t41, t42, t43, t44, t45, t46, t47, t48, t49, t50, undef, undef, undef, undef, undef, undef, undef, undef, undef, undef, undef, undef, undef, undef, undef, undef, undef, undef, undef, undef, undef, undef, undef, undef, undef, undef, undef, undef, undef, undef, undef, undef, undef, undef, undef, undef, undef, undef, undef, undef, undef, undef, undef, undef, undef, undef, undef, undef, undef, undef, undef, undef, undef, undef, undef, undef, undef, undef, undef, undef, undef, undef, undef, undef, undef, undef, undef, undef, undef, undef, undef, undef, undef, undef, undef, undef, undef, undef, undef, undef, undef, undef, undef, undef, undef, undef, undef, undef, undef, undef, undef, undef, undef], defers := [] } [.code c9c]) [] w := by
  have h40 := ansL_len l
  rw [c9c_eq]
  refine .ctl (fun _ => stepG_seq) ?_
  refine A.seg bodP noEarly (fn := Try.f9) Try.func9 rfl (c := c9s) codeP9s (k := [.code c9d]) rfl (Q := QS9 ao cap l wv inV v b t11 t20 t21 t22 t23 t24 t25 t26 t27 t28 t29 t30 t31 t32 t33 t34 t35 t36 t37 t38 t39 t40 t41 t42 t43 t44 t45 t46 t47 t48 t49 t50 fun vg w' => KeptTo N w w' ∧ w'.ownsRow N 3 1 vg ((ansL l).length + 2) (List.replicate (ansL l).length (.int .i64 (-1)) ++ [.int .i64 (-2), .int .i64 (-3)])) ?_ (fun w' hs => ?_) ?_
  · rintro a w1 w2 hs ⟨vg, t51, t52, t53, rfl, h1, h2⟩
    exact ⟨vg, t51, t52, t53, rfl, h1.same hs, ownsRow_same h2 hs⟩
  · refine seg9 ao cap l wv inV v b N (ansL l).length _ w' (ownsRow_same hv hs) (by rw [hs.heap]; exact hS.n2) (by omega) _ (fun vg w2 h1 h2 => ⟨?_, h2⟩) t11 t20 t21 t22 t23 t24 t25 t26 t27 t28 t29 t30 t31 t32 t33 t34 t35 t36 t37 t38 t39 t40 t41 t42 t43 t44 t45 t46 t47 t48 t49 t50
    exact (KeptTo.refl N w).same hs |>.trans (KeptTo.grown h1 (by rw [hs.heap]; exact hS.n2) fun g hg => (ownsRow_blk hv g hg).1)
  rintro a w8 ⟨vg, t51, t52, t53, rfl, hK8, hO8⟩
  have hS8 := hS.to hK8
  simp only [c9d, c9c, c9b, Try.f9]
  refine .ctl (fun _ => stepG_seq) ?_
  refine .ctl (fun _ => stepG_region) ?_
  walk_nrm
  refine .mov (inV) rfl rfl (.inl rfl) rfl (by decide) ?_
  walk_nrm
  refine .ent (f := 32) (xs := #[inV]) rfl rfl (by decide) (fun w' => by go_simp) (fun w' => by simp [go_sem, callFunc, Try.func32, Try.f32]) ?_
  refine A.hullA hS8.row (Nat.le_trans hG hS8.kept.size) fun vk w9 hk9 hO9 => ?_
  rw [Frame.finish_at]
  walk_nrm
  refine .mov (.tuple #[vk, .int .i64 (errL l)]) rfl rfl (.inl rfl) rfl (by decide) ?_
  walk_nrm
  refine .val (vk) bodP.func rfl rfl (by decide) trivial (fun w' _ => by go_simp) ?_
  walk_nrm
  refine .val (.int .i64 (errL l)) bodP.func rfl rfl (by decide) trivial (fun w' _ => by go_simp) ?_
  walk_nrm
  refine .mov (vk) rfl rfl (.inr rfl) rfl (by decide) ?_
  walk_nrm
  refine .mov (.int .i64 (errL l)) rfl rfl (.inr rfl) rfl (by decide) ?_
  walk_nrm
  refine .ctl (fun _ => stepG_region_end) ?_
  refine A.rest bodP noEarly (fn := Try.f9) Try.func9 rfl (c := c9r) codeP9r rfl (Q := fun a w' => a.tmps.getD 2 undef = .bool true ∧ Hid (Kept W w')) (fun a w1 w2 hs q => ⟨q.1, q.2.out.same hs⟩) (fun w' hs => ?_) (fun a w' todo hd hq => A.leave9 hd hq.1 fun w2 hs => h w2 (hq.2.out.same hs))
  have hk' : Kept w8 w' := hk9.same hs
  exact rest9 W ao cap l wv inV v vg vk b N w8.heap.size w' (hS8.to (hk'.to hS8.n2)) hS8.n2 (ownsRow_to hO8 (hk'.to (Nat.le_refl _)) fun g hg => (ownsRow_blk hO8 g hg).2) (fun g hg => (ownsRow_blk hO8 g hg).2) hk'.size (hO9.same hs) _ _ _ _ _ _ _ _ _ _ _ _ _ _ _ _ _ _ _ _ _ _ _ _ _ _ _ _ _ _ _ _ _ _ _ _ _ _ _ _ 

set_option maxHeartbeats 4000000 in
theorem A.h9b {Post : Value → World → Prop} {W : World} {ao : Option Addr} {cap : Nat} {l : Pts} {wv : Value} {w : World} (hP : PolyAt W ao l) (hc : l.length ≤ cap) (hs : cap ≤ 10000000000000) (hn : ao = none → cap = 0) (hG : GN ≤ W.heap.size) (h : ∀ w', Kept W w' → Post (.bool true) w')
    (hK : Kept W w) (hw : OwnN w W.heap.size wv (ansL l)) (t20 t21 t22 t23 t24 t25 : Value) :
    A Try.prog Post ((base 9).at { tmps := #[.slice ao l.length cap, undef, .bool false, .int .i64 (errL l), wv, undef, undef, undef, undef, undef, undef, undef, undef, undef, undef, undef, undef, undef, undef, undef, t20, t21, t22, t23, t24, t25, undef, undef, undef, undef, undef, undef, undef, undef, undef, undef, undef, undef, undef, undef, undef, undef, undef, undef, undef, undef, undef, undef, undef, undef, undef, undef, undef, undef, undef, undef, undef, undef, undef, undef, undef, undef, undef, undef, undef, undef, undef, undef, undef, undef, undef, undef, undef, undef, undef, undef, undef, undef, undef, undef, undef, undef, undef, undef, undef, undef, undef, undef, undef, undef, undef, undef, undef, undef, undef, undef, undef, undef, undef, undef, undef, undef, undef, undef, undef, undef, undef, undef, undef, undef, undef, undef, undef, undef, undef, undef, undef, undef, undef, undef, undef, undef, undef, undef, undef, undef, undef, undef, undef, undef, undef, undef, undef, undef, undef, undef, undef, undef, undef, undef, undef, undef, undef, undef], defers := [] } [.code c9b]) [] w := by
  have h40 := ansL_len l
  simp only [c9b, Try.f9]
  refine .ctl (fun _ => stepG_seq) ?_
  refine .ctl (fun _ => stepG_region) ?_
  walk_nrm
  refine .mov (.slice ao l.length cap) rfl rfl (.inl rfl) rfl (by decide) ?_
  walk_nrm
  refine .ent (f := 26) (xs := #[.slice ao l.length cap]) rfl rfl (by decide) (fun w' => by go_simp) (fun w' => by simp [go_sem, callFunc, Try.func26, Try.f26]) ?_
  refine A.call bodP noEarly fs26 Try.func26 (c := Try.f26.body.getD .skip) rfl (Q := fun v w' => ∃ inV, v = .tuple #[.slice (some ⟨w.heap.size, 0, none⟩) (l.length + 1) (l.length + 1), inV] ∧ ((inV = .slice none 0 0 ∧ l = []) ∨ inV = .slice (some ⟨w.heap.size, 0, none⟩) l.length (l.length + 1)) ∧ Kept w w' ∧ w'.heap[w.heap.size]? = some (.cells (flatP (l ++ [(0, 0)])).toArray 23 (0, 0))) ?_ (fun w' hs' => (lent_poly ao cap l w' ((hP.keptB hK).heap hs'.heap) hs hc hn).mono ?_) fun tv w3 hq => ?_
  · rintro v w1 w2 k ⟨inV, h1, h2, h3, h4⟩
    exact ⟨inV, h1, h2, h3.same k, by rw [k.heap]; exact h4⟩
  · rintro e w2 ⟨inV, rfl, h2, H⟩
    have hr := H.out.row
    rw [hs'.heap] at h2 hr ⊢
    exact ⟨_, rfl, inV, rfl, h2, H.out.new.kept0 hs', hr⟩
  obtain ⟨inV, rfl, hin, hk3, hblk⟩ := hq
  obtain ⟨b, hb⟩ : ∃ b, b = w.heap.size := ⟨_, rfl⟩
  rw [← hb] at hin hblk ⊢
  have hblt : b < w3.heap.size := (Array.getElem?_eq_some_iff.1 hblk).1
  have hS3 : S9 W ao cap l wv inV b w3.heap.size w3 := ⟨hK.trans hk3, (hK.trans hk3).size, Nat.le_refl _, hblt, by rw [hb]; exact Nat.le_trans hG hK.size, hw.to (hk3.to (Nat.le_refl _)) fun g hg => (hw.lt g hg).2, fun g hg => Nat.lt_of_lt_of_le (hw.lt g hg).2 hk3.size, hblk, hin, hP, hc, hs⟩
  rw [Frame.finish_at]
  walk_nrm
  refine .mov (.tuple #[.slice (some ⟨b, 0, none⟩) (l.length + 1) (l.length + 1), inV]) rfl rfl (.inl rfl) rfl (by decide) ?_
  walk_nrm
  refine .val (.slice (some ⟨b, 0, none⟩) (l.length + 1) (l.length + 1)) bodP.func rfl rfl (by decide) trivial (fun w' _ => by go_simp) ?_
  walk_nrm
  refine .val (inV) bodP.func rfl rfl (by decide) trivial (fun w' _ => by go_simp) ?_
  walk_nrm
  refine .mov (.slice (some ⟨b, 0, none⟩) (l.length + 1) (l.length + 1)) rfl rfl (.inr rfl) rfl (by decide) ?_
  walk_nrm
  refine .mov (inV) rfl rfl (.inr rfl) rfl (by decide) ?_
  walk_nrm
  refine .ctl (fun _ => stepG_region_end) ?_
  refine .ctl (fun _ => stepG_seq) ?_
  refine .ctl (fun _ => stepG_region) ?_
  walk_nrm
  refine .mov (inV) rfl rfl (.inl rfl) rfl (by decide) ?_
  walk_nrm
  refine .ent (f := 32) (xs := #[inV]) rfl rfl (by decide) (fun w' => by go_simp) (fun w' => by simp [go_sem, callFunc, Try.func32, Try.f32]) ?_
  refine A.hullA hS3.row (Nat.le_trans hG hS3.kept.size) fun v w4 hk4 hO4 => ?_
  have hS4 := hS3.to (hk4.to (Nat.le_refl _))
  rw [Frame.finish_at]
  walk_nrm
  refine .mov (.tuple #[v, .int .i64 (errL l)]) rfl rfl (.inl rfl) rfl (by decide) ?_
  walk_nrm
  refine .val (v) bodP.func rfl rfl (by decide) trivial (fun w' _ => by go_simp) ?_
  walk_nrm
  refine .val (.int .i64 (errL l)) bodP.func rfl rfl (by decide) trivial (fun w' _ => by go_simp) ?_
  walk_nrm
  refine .mov (v) rfl rfl (.inr rfl) rfl (by decide) ?_
  walk_nrm
  refine .mov (.int .i64 (errL l)) rfl rfl (.inr rfl) rfl (by decide) ?_
  walk_nrm
  refine .ctl (fun _ => stepG_region_end) ?_
  refine .ctl (fun _ => stepG_seq) ?_
  refine .ctl (fun _ => stepG_region) ?_
  walk_nrm
  refine .mov (.slice (some ⟨b, 0, none⟩) (l.length + 1) (l.length + 1)) rfl rfl (.inl rfl) rfl (by decide) ?_
  walk_nrm
  refine .mov (.slice ao l.length cap) rfl rfl (.inl rfl) rfl (by decide) ?_
  walk_nrm
  refine .ent (f := 28) (xs := #[.slice (some ⟨b, 0, none⟩) (l.length + 1) (l.length + 1), .slice ao l.length cap]) rfl rfl (by decide) (fun w' => by go_simp) (fun w' => by simp [go_sem, callFunc, Try.func28, Try.f28]) ?_
  refine A.call bodP noEarly fs28 Try.func28 (c := Try.f28.body.getD .skip) rfl (Q := fun v w' => v = .bool true ∧ Kept w4 w') (fun v w1 w2 k q => ⟨q.1, q.2.same k⟩) (fun w' hs' => (back_any b ao cap l w' (hS4.all.heap (by rw [hs'.heap])) (hS4.args.heap hs'.heap) hs hc).mono ?_) fun tv w5 hq => ?_
  · rintro e w2 ⟨rfl, H⟩
    exact ⟨_, rfl, rfl, H.out.kept0 hs'⟩
  obtain ⟨rfl, hk5⟩ := hq
  have hS5 := hS4.to (hk5.to hS4.n2)
  have hO5 : OwnN w5 w3.heap.size v (ansL l) := hO4.to (hk5.to (Nat.le_refl _)) fun g hg => (hO4.lt g hg).2
  rw [Frame.finish_at]
  walk_nrm
  refine .mov (.bool true) rfl rfl (.inr rfl) rfl (by decide) ?_
  walk_nrm
  refine .ctl (fun _ => stepG_region_end) ?_
  refine .ctl (fun _ => stepG_seq) ?_
  refine .ctl (fun _ => stepG_region) ?_
  walk_nrm
  refine .mov (v) rfl rfl (.inl rfl) rfl (by decide) ?_
  walk_nrm
  refine .mov (wv) rfl rfl (.inl rfl) rfl (by decide) ?_
  walk_nrm
  refine .ent (f := 33) (xs := #[v, wv]) rfl rfl (by decide) (fun w' => by go_simp) (fun w' => by simp [go_sem, callFunc, Try.func33, Try.f33]) ?_
  refine A.call bodP noEarly fs33 Try.func33 (c := Try.f33.body.getD .skip) rfl (Q := fun v w' => v = .bool true ∧ Kept w5 w') (fun v w1 w2 k q => ⟨q.1, q.2.same k⟩) (fun w' hs' => ?_) fun tv w6 hq => ?_
  · obtain ⟨a1, c1, e1, h1⟩ := (hO5.same hs').ints
    obtain ⟨a2, c2, e2, h2⟩ := (hS5.want.same hs').ints
    rw [e1, e2]
    refine (sameInts_eq a1 a2 c1 c2 _ w' h1 h2 (by rw [List.length_map]; omega)).mono ?_
    rintro e w2 ⟨rfl, H⟩
    exact ⟨_, rfl, rfl, H.out.kept0 hs'⟩
  obtain ⟨rfl, hk6⟩ := hq
  have hS6 := hS5.to (hk6.to hS5.n2)
  have hO6 : OwnN w6 w3.heap.size v (ansL l) := hO5.to (hk6.to (Nat.le_refl _)) fun g hg => (hO5.lt g hg).2
  rw [Frame.finish_at]
  walk_nrm
  refine .mov (.bool true) rfl rfl (.inr rfl) rfl (by decide) ?_
  walk_nrm
  refine .ctl (fun _ => stepG_region_end) ?_
  refine .ctl (fun _ => stepG_seq) ?_
  refine A.seg bodP noEarly (fn := Try.f9) Try.func9 rfl (c := c9l) codeP9l (k := [.code c9c]) rfl (Q := QL9 ao cap l wv inV v b _ _ _ _ _ _ _ _ _ _ _ _ _ _ _ _ _ _ _ _ _ _  fun w' => KeptTo w3.heap.size w6 w' ∧ w'.ownsRow w3.heap.size 3 1 v (ansL l).length (List.replicate (ansL l).length (.int .i64 (-1)))) ?_ (fun w' hs' => loop9 ao cap l wv inV v b w3.heap.size (ansL l).length _ w' (hO6.same hs') (by omega) _ (fun w2 h1 h2 => ⟨(KeptTo.refl _ w6).same hs' |>.trans (KeptTo.grown h1 (by rw [hs'.heap]; exact hS6.n2) fun g hg => (hO6.lt g hg).1), h2⟩) _ _ _ _ _ _ _ _ _ _ _ _ _ _ _ _ _ _ _ _ _ _ ) ?_
  · rintro a w1 w2 hs' ⟨t11, t42, t43, t44, t45, t46, t47, t48, t49, t50, rfl, h1, h2⟩
    exact ⟨t11, t42, t43, t44, t45, t46, t47, t48, t49, t50, rfl, h1.same hs', ownsRow_same h2 hs'⟩
  rintro a w7 ⟨t11, t42, t43, t44, t45, t46, t47, t48, t49, t50, rfl, hK7, hO7⟩
  exact A.h9c (hS6.to hK7) hG h hO7 _ _ _ _ _ _ _ _ _ _ _ _ _ _ _ _ _ _ _ _ _ _ _ _ _ _ _ _ _ _ _ _ 

set_option maxHeartbeats 4000000 in
/-- Hulls answers true, and leaves what there was as it was. -/
theorem A.hulls {Post : Value → World → Prop} {W : World} {ao : Option Addr} {cap : Nat} {l : Pts} (hP : PolyAt W ao l) (hc : l.length ≤ cap) (hs : cap ≤ 10000000000000) (hn : ao = none → cap = 0) (hG : GN ≤ W.heap.size) (h : ∀ w', Kept W w' → Post (.bool true) w') :
    A Try.prog Post (Frame.enter Try.prog 9 #[.slice ao l.length cap] .normal) [] W := by
  rw [Conc.enter_at _ Try.func9 (c := Try.f9.body.getD .skip) rfl]
  walk_nrmf Try.f9
  refine .ctl (fun _ => stepG_seq) ?_
  refine .ctl (fun _ => stepG_region) ?_
  walk_nrm
  refine .mov (.bool false) rfl rfl (.inr rfl) rfl (by decide) ?_
  walk_nrm
  refine .ctl (fun _ => stepG_region_end) ?_
  refine .ctl (fun _ => stepG_seq) ?_
  refine .ctl (fun _ => stepG_region) ?_
  walk_nrm
  refine .mov (.slice ao l.length cap) rfl rfl (.inl rfl) rfl (by decide) ?_
  walk_nrm
  refine .ent (f := 30) (xs := #[.slice ao l.length cap]) rfl rfl (by decide) (fun w' => by go_simp) (fun w' => by simp [go_sem, callFunc, Try.func30, Try.f30]) ?_
  refine A.call bodP noEarly fs30 Try.func30 (c := Try.f30.body.getD .skip) rfl (Q := fun v w' => v = .int .i64 (errL l) ∧ Kept W w') (fun v w1 w2 k q => ⟨q.1, q.2.same k⟩) (fun w' hs' => (refused_any ao cap l w' (hP.heap hs'.heap) hc (by omega)).mono ?_) fun tv w1 hq => ?_
  · rintro e w2 ⟨rfl, H⟩
    exact ⟨_, rfl, rfl, H.out.kept0 hs'⟩
  obtain ⟨rfl, hk1⟩ := hq
  rw [Frame.finish_at]
  walk_nrm
  refine .mov (.int .i64 (errL l)) rfl rfl (.inr rfl) rfl (by decide) ?_
  walk_nrm
  refine .ctl (fun _ => stepG_region_end) ?_
  refine .ctl (fun _ => stepG_seq) ?_
  refine .ctl (fun _ => stepG_region) ?_
  walk_nrm
  refine .mov (.slice none 0 0) rfl rfl (.inr rfl) rfl (by decide) ?_
  walk_nrm
  refine .ctl (fun _ => stepG_region_end) ?_
  refine .ctl (fun _ => stepG_seq) ?_
  refine .ctl (fun _ => stepG_seq) ?_
  refine .ctl (fun _ => stepG_region) ?_
  walk_nrm
  refine .mov (.int .i64 (errL l)) rfl rfl (.inl rfl) rfl (by decide) ?_
  walk_nrm
  refine .val (.bool (decide (errL l = 0))) bodP.func rfl rfl (by decide) trivial (fun w' _ => ?_) ?_
  · simp [go_sem]
    by_cases he : errL l = 0 <;> simp [he]
  walk_nrm
  refine .ctl (fun _ => stepG_region_end) ?_
  by_cases he : errL l = 0
  · refine .ctl (fun _ => stepG_cond (t := true) (by simp [Act.eval, he])) ?_
    simp only [if_true]
    refine .ctl (fun _ => stepG_region) ?_
    walk_nrm
    refine .mov (.slice ao l.length cap) rfl rfl (.inl rfl) rfl (by decide) ?_
    walk_nrm
    refine .ent (f := 31) (xs := #[.slice ao l.length cap]) rfl rfl (by decide) (fun w' => by go_simp) (fun w' => by simp [go_sem, callFunc, Try.func31, Try.f31]) ?_
    refine A.call bodP noEarly fs31 Try.func31 (c := Try.f31.body.getD .skip) rfl (Q := fun v w' => Kept w1 w' ∧ OwnN w' w1.heap.size v (ansL l)) (fun v w1 w2 k q => ⟨q.1.same k, q.2.same k⟩) (fun w' hs' => (refHull_poly ao cap l w' ((hP.keptB hk1).heap hs'.heap) (by have := (errL_zero he).1; omega) (errL_zero he).2).mono ?_) fun wv w2 hq => ?_
    · rintro e w2 ⟨v, rfl, H⟩
      refine ⟨v, rfl, H.out.1.kept0 hs', ?_⟩
      have := H.out.2
      rw [hs'.heap] at this
      unfold ansL
      rw [if_pos he]
      exact this
    obtain ⟨hk2, hw2⟩ := hq
    rw [Frame.finish_at]
    walk_nrm
    refine .mov (wv) rfl rfl (.inr rfl) rfl (by decide) ?_
    walk_nrm
    refine .ctl (fun _ => stepG_region_end) ?_
    exact A.h9b hP hc hs hn hG h (hk1.trans hk2) (hw2.le hk1.size) _ _ _ _ _ _ 
  · refine .ctl (fun _ => stepG_cond (t := false) (by simp [Act.eval, he])) ?_
    simp only [Bool.false_eq_true, if_false]
    refine .ctl (fun _ => stepG_skip) ?_
    exact A.h9b hP hc hs hn hG h hk1 (by unfold ansL; rw [if_neg he]; exact OwnN.nil _ _) _ _ _ _ _ _ 

end Go.Proofs.Ytgeoffpcmkofkaa
