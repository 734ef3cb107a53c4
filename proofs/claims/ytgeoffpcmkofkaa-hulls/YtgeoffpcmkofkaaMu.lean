/- The end of Hulls. (Made by gen9.py.) -/
import Derived.Test.YtgeoffpcmkofkaaMt
namespace Go.Proofs.Ytgeoffpcmkofkaa
open Go Go.Conc Go.RowKit Fl Go.Maps Go.Lib Go.Joins
set_option maxRecDepth 100000
attribute [local go_sem ↓] Go.wp_at_zero Go.wp_at_succ

theorem rep_get {n k : Nat} {c : Value} {r : List Value} (h : k < n) : (List.replicate n c ++ r)[k]? = some c := by
  rw [List.getElem?_append_left (by simpa using h)]
  simp [h]
theorem rep_last {n : Nat} {c x y : Value} : (List.replicate n c ++ [x, y])[n + 1]? = some y := by
  rw [List.getElem?_append_right (by simp)]
  simp
set_option maxHeartbeats 3200000 in
theorem rest9 (W : World) (ao : Option Addr) (cap : Nat) (l : Pts) (wv inV v vg vk : Value) (b N B : Nat) (w : World) (hS : S9 W ao cap l wv inV b N w) (hNB : N ≤ B)
    (hg : w.ownsRow N 3 1 vg ((ansL l).length + 2) (List.replicate (ansL l).length (.int .i64 (-1)) ++ [.int .i64 (-2), .int .i64 (-3)])) (hgB : ∀ g, vg.ownBlock = some g → g < B) (hB : B ≤ w.heap.size) (hk : OwnN w B vk (ansL l)) (t11 t20 t21 t22 t23 t24 t25 t26 t27 t28 t29 t30 t31 t32 t33 t34 t35 t36 t37 t38 t39 t40 t41 t42 t43 t44 t45 t46 t47 t48 t49 t50 t51 t52 t53 t54 t55 t56 t57 t58 : Value) :
    c9r.wp Try.prog (fun e a w' => (e = .normal ∨ e = .ret) ∧ a.tmps.getD 2 undef = .bool true ∧ Hid (Kept W w'))
      { tmps := #[.slice ao l.length cap, undef, .bool false, .int .i64 (errL l), wv, .slice (some ⟨b, 0, none⟩) (l.length + 1) (l.length + 1), inV, v, .int .i64 (errL l), .bool true, .bool true, t11, vg, vk, .int .i64 (errL l), undef, undef, undef, undef, undef, t20, t21, t22, t23, t24, t25, t26, t27, t28, t29, t30, t31, t32, t33, t34, t35, t36, t37, t38, t39, t40, t41, t42, t43, t44, t45, t46, t47, t48, t49, t50, t51, t52, t53, t54, t55, t56, t57, t58, undef, undef, undef, undef, undef, undef, undef, undef, undef, undef, undef, undef, undef, undef, undef, undef, undef, undef, undef, undef, undef, undef, undef, undef, undef, undef, undef, undef, undef, undef, undef, undef, undef, undef, undef, undef, undef, undef, undef, undef, undef, undef, undef, undef, undef, undef, undef, undef, undef, undef, undef, undef, undef, undef, undef, undef, undef, undef, undef, undef, undef, undef, undef, undef, undef, undef, undef, undef, undef, undef, undef, undef, undef, undef, undef, undef, undef, undef, undef, undef, undef, undef, undef, undef, undef], defers := [] } w := by
  simp only [c9r, c9d, c9c, c9b, Try.f9]
  have hlen := ansL_len l
  obtain ⟨n, hn⟩ : ∃ n, n = (ansL l).length := ⟨_, rfl⟩
  obtain ⟨a2, c2, e2, hI2⟩ := hk.ints
  obtain ⟨aw, cw, e4, hIw⟩ := hS.want.ints
  obtain ⟨gg, cg, eg⟩ := ownsRow_form hg (by omega)
  have hx : ((ansL l).map fun (n : Nat) => (n : Int)).length = n := by rw [List.length_map, hn]
  rw [hx] at e2 e4
  rw [← hn] at hg eg hlen
  have HI : Hid (IntsAt w a2 ((ansL l).map fun (n : Nat) => (n : Int)) ∧ IntsAt w aw ((ansL l).map fun (n : Nat) => (n : Int))) := ⟨hI2, hIw⟩
  have HK : Hid (w.ownsRow B 3 1 (.slice a2 n c2) n ((ansL l).map fun (n : Nat) => Value.int .i64 (n : Int))) := by rw [← e2, hn]; exact hk
  have HS : Hid (S9 W ao cap l wv inV b N w ∧ N ≤ B ∧ B ≤ w.heap.size ∧ (∀ g, vg.ownBlock = some g → g < B)) := ⟨hS, hNB, hB, hgB⟩
  have HG : Hid (w.ownsRow N 3 1 vg (n + 2) (List.replicate n (.int .i64 (-1)) ++ [.int .i64 (-2), .int .i64 (-3)])) := hg
  have HX : Hid (((ansL l).map fun (n : Nat) => (n : Int)).length = n) := hx
  clear hI2 hIw hk hS hg hNB hB hgB hx hn
  subst e2 e4 eg
  go_wp2_with fail
  have hcall := sameInts_eq a2 aw c2 cw ((ansL l).map fun (n : Nat) => (n : Int)) w HI.out.1 HI.out.2 (by rw [HX.out]; omega)
  rw [HX.out] at hcall
  refine hcall.mono ?_
  rintro e w1 ⟨rfl, H1⟩
  clear hcall
  have H0 : Hid (FillI w1 w1 B n (.slice a2 n c2) (.int .i64 (-4)) 0 ((ansL l).map fun (n : Nat) => Value.int .i64 (n : Int))) := ⟨World.grownBy.refl _ _, World.ownsRow.kept HK.out H1.out (by cases (Value.slice a2 n c2).ownBlock <;> simp), rfl⟩
  go_wp2_with fail
  go_loopw [16] (fun i wr => ∃ (k : Nat) (ys : List Value), i = .int .i64 (k : Int) ∧ k ≤ n ∧ Hid (FillI w1 wr B n (.slice a2 n c2) (.int .i64 (-4)) k ys)) (fun i _ => n - (intOf i).toNat)
  case atStart => exact ⟨0, _, rfl, Nat.zero_le _, H0⟩
  case round =>
    obtain ⟨k, ys, rfl, hk, H⟩ := hrel
    rcases Nat.lt_or_ge k n with hk' | hk'
    · obtain ⟨g, cp', e⟩ := ownsRow_form H.out.own (by omega)
      injection e with e1 _ e3
      subst e1 e3
      have i0 : (0 : Int) ≤ (k : Int) := by omega
      have i1 : (k : Int) < (n : Int) := by omega
      have hw1 : IntKind.i64.wrap ((k : Int) + 1) = (k : Int) + 1 := by rw [IntKind.wrap_i64]; omega
      obtain ⟨xk, hxk⟩ : ∃ xk, ys[k]? = some xk := ⟨_, List.getElem?_eq_getElem (show k < ys.length by have := H.out.own.1; omega)⟩
      have f1 := World.ownsRow.frozenAt H.out.own k
      have f2 : wr.cell? ⟨g, k, none⟩ = some xk := (World.ownsRow.cellAt H.out.own k (by omega)).trans hxk
      have HF := H.out.put hk'
      have HF : Hid (FillI w1 (wr.setCell ⟨g, k, none⟩ (.int .i64 (-4))) B n (.slice (some ⟨g, 0, none⟩) n c2) (.int .i64 (-4)) (k + 1) (ys.set k (.int .i64 (-4)))) := HF
      clear hxk
      go_wp2_with fail
      go_roundw
      case rel => exact ⟨k + 1, _, by go_num, hk', HF⟩
      case measure => simp [intOf]; omega
    · have e : k = n := by omega
      subst e
      have hsz : w.heap.size ≤ wr.heap.size := Nat.le_trans H1.out.size H.out.gr.size
      obtain ⟨vj, wj, k1, R⟩ := push2 (-5) (-6) H.out.all (by have := HS.out.2.2.1; omega) (by omega)
      have HT : Hid (KeptTo B w wj) := ((KeptTo.grown H1.out (HS.out.2.2.1) (by simp)).trans (KeptTo.grown H.out.gr (Nat.le_trans HS.out.2.2.1 H1.out.size) fun g hg => (ownsRow_blk HK.out g hg).1)).trans (KeptTo.grown R.out.1 (Nat.le_trans HS.out.2.2.1 hsz) fun g hg => (ownsRow_blk HK.out g hg).1)
      have HSj : Hid (S9 W ao cap l (.slice aw k cw) inV b N wj) := HS.out.1.to ⟨HT.out.os, HT.out.output, HT.out.size, fun r hr => HT.out.block r (by have := HS.out.2.1; omega)⟩
      have hgj := ownsRow_to HG.out HT.out HS.out.2.2.2
      obtain ⟨gj, cj, ej⟩ := ownsRow_form R.out.2 (by omega)
      have hj := R.out.2
      subst ej
      have G1 : Hid (∀ m, m < k → wj.cell? ⟨gg, m, none⟩ = some (.int .i64 (-1)) ∧ wj.cell? ⟨gj, m, none⟩ = some (.int .i64 (-4))) := fun m hm => ⟨(World.ownsRow.cellAt hgj m (by omega)).trans (rep_get hm), (World.ownsRow.cellAt hj m (by omega)).trans (rep_get hm)⟩
      have g2 : wj.cell? ⟨gg, k + 1, none⟩ = some (.int .i64 (-3)) := (World.ownsRow.cellAt hgj (k + 1) (by omega)).trans rep_last
      have g3 : wj.cell? ⟨gj, k + 1, none⟩ = some (.int .i64 (-6)) := (World.ownsRow.cellAt hj (k + 1) (by omega)).trans rep_last
      have G2 : Hid (wj.cell? ⟨gg, k + 1, none⟩ = some (.int .i64 (-3)) ∧ wj.cell? ⟨gj, k + 1, none⟩ = some (.int .i64 (-6))) := ⟨g2, g3⟩
      clear hgj hj g2 g3
      go_wp2_with (first | (at_builtin; refine Go.Lib.wpList_append_run _ rfl _ _ 46 46 rfl _ _ rfl rfl _ wj k1 ?_) | go_in)
      go_loopw [18] (fun i wr => ∃ m : Nat, i = .int .i64 (m : Int) ∧ m ≤ k + 2 ∧ wj = wr) (fun i _ => k + 2 - (intOf i).toNat)
      case atStart => exact ⟨0, rfl, Nat.zero_le _, rfl⟩
      case round =>
        obtain ⟨m, rfl, hm, rfl⟩ := hrel
        have hw1 : IntKind.i64.wrap ((m : Int) + 1) = (m : Int) + 1 := by rw [IntKind.wrap_i64]; omega
        rcases Nat.lt_or_ge m (k + 2) with hm' | hm'
        · have i1 : (m : Int) < (k : Int) + 2 := by omega
          rcases Nat.lt_or_ge m k with hmk | hmk
          · have i0 : (0 : Int) ≤ (m : Int) := by omega
            have i2 : (m : Int) < (k : Int) := by omega
            obtain ⟨x1, x2⟩ := G1.out m hmk
            go_wp2_with fail
            go_roundw
            case rel => exact ⟨m + 1, by go_num, hm', trivial⟩
            case measure => simp [intOf]; omega
          · have i2 : ¬(m : Int) < (k : Int) := by omega
            go_wp2_with fail
            go_roundw
            case rel => exact ⟨m + 1, by go_num, hm', trivial⟩
            case measure => simp [intOf]; omega
        · have e : m = k + 2 := by omega
          subst e
          go_wp2_with fail
          refine (back_any b ao cap l wj HSj.out.all HSj.out.args HSj.out.cap2 HSj.out.cap1).mono ?_
          rintro e w5 ⟨rfl, H5⟩
          have x1 := H5.out.kept' G2.out.1
          have x2 := H5.out.kept' G2.out.2
          have j1 : ¬(k : Int) + 2 < 2 := by omega
          have j2 : IntKind.i64.wrap ((k : Int) + 2 - 1) = (k : Int) + 1 := by rw [IntKind.wrap_i64]; omega
          have j3 : (0 : Int) ≤ (k : Int) + 1 := by omega
          have j4 : (k : Int) + 1 < (k : Int) + 2 := by omega
          have j5 : ((k : Int) + 1).toNat = k + 1 := by omega
          go_wp2_with fail
          exact ((HSj.out.to (KeptTo.grown H5.out HSj.out.n2 (by simp))).kept)

end Go.Proofs.Ytgeoffpcmkofkaa
