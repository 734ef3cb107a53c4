/- Mu; Mv; Sides; Mr; Mw: texts laid into one. -/
import Derived.Test.YtgeoffpcmkofkaaQax
import Derived.Test.YtgeoffpcmkofkaaRows
import Derived.Test.YtgeoffpcmkofkaaQaw
import Derived.ProofKit
import Derived.OpenShut
import Derived.Lib.SmallJoins
import Derived.Test.YtgeoffpcmkofkaaQat
import Derived.Conc.LeavingOf
import Derived.Test.YtgeoffpcmkofkaaQau
import Derived.Test.YtgeoffpcmkofkaaQag
import Derived.Deep.SlicePairs
import Derived.SizedLaws
import Derived.Carry
/- The end of Hulls. (Made by gen9.py.) -/
namespace Go.Proofs.Ytgeoffpcmkofkaa
open Go Go.Conc Go.RowKit Fl Go.Maps Go.Lib Go.Joins
set_option maxRecDepth 100000
attribute [local go_sem ↓] Go.wp_at_zero Go.wp_at_succ

theorem rep_get {n k : Nat} {c : Value} {r : List Value} (h : k < n) : (List.replicate n c ++ r)[k]? = some c := by
  rw [List.getElem?_append_left (by simpa using h)]
  simp [h]
theorem rep_last {n : Nat} {c x y : Value} : (List.replicate n c ++ [x, y])[n + 1]? = some y := by
  rw [List.getElem?_append_right (by simp)]
  simp
set_option maxHeartbeats 3200000 in
theorem rest9 (W : World) (ao : Option Addr) (cap : Nat) (l : Pts) (wv inV v vg vk : Value) (b N B : Nat) (w : World) (hS : S9 W ao cap l wv inV b N w) (hNB : N ≤ B)
    (hg : w.ownsRow N 3 1 vg ((ansL l).length + 2) (List.replicate (ansL l).length (.int .i64 (-1)) ++ [.int .i64 (-2), .int .i64 (-3)])) (hgB : ∀ g, vg.ownBlock = some g → g < B) (hB : B ≤ w.heap.size) (hk : OwnN w B vk (ansL l)) (t11 t20 t21 t22 t23 t24 t25 t26 t27 t28 t29 t30 t31 t32 t33 t34 t35 t36 t37 t38 t39 t40 t41 t42 t43 t44 t45 t46 t47 t48 t49 t50 t51 t52 t53 t54 t55 t56 t57 t58 : Value) :
    c9r.wp Try.prog (fun e a w' => (e = .normal ∨ e = .ret) ∧ a.tmps.getD 2 undef = .bool true ∧ Hid (Kept W w'))
      { tmps := #[.slice ao l.length cap, undef, .bool false, .int .i64 (errL l), wv, .slice (some ⟨b, 0, none⟩) (l.length + 1) (l.length + 1), inV, v, .int .i64 (errL l), .bool true, .bool true, t11, vg, vk, .int .i64 (errL l), undef, undef, undef, undef, undef, t20, t21, t22, t23, t24, t25, t26, t27, t28, t29, t30, t31, t32, t33, t34, t35, t36, t37, t38, t39, t40, t41, t42, t43, t44, t45, t46, t47, t48, t49, t50, t51, t52, t53, t54, t55, t56, t57, t58, undef, undef, undef, undef, undef, undef, undef, undef, undef, undef, undef, undef, undef, undef, undef, undef, undef, undef, undef, undef, undef, undef, undef, undef, undef, undef, undef, undef, undef, undef, undef, undef, undef, undef, undef, undef, undef, undef, undef, undef, undef, undef, undef, undef, undef, undef, undef, undef, undef, undef, undef, undef, undef, undef, undef, undef, undef, undef, undef, undef, undef, undef, undef, undef, undef, undef, undef, undef, undef, undef, undef, undef, undef, undef, undef, undef, undef, undef, undef, undef, undef, undef, undef, undef, undef], defers := [] } w := by
  simp only [c9r, c9d, c9c, c9b, Try.f9]
  have hlen := ansL_len l
  obtain ⟨n, hn⟩ : ∃ n, n = (ansL l).length := ⟨_, rfl⟩
  obtain ⟨a2, c2, e2, hI2⟩ := hk.ints
  obtain ⟨aw, cw, e4, hIw⟩ := hS.want.ints
  obtain ⟨gg, cg, eg⟩ := ownsRow_form hg (by omega)
  have hx : ((ansL l).map fun (n : Nat) => (n : Int)).length = n := by rw [List.length_map, hn]
  rw [hx] at e2 e4
  rw [← hn] at hg eg hlen
  have HI : Hid (IntsAt w a2 ((ansL l).map fun (n : Nat) => (n : Int)) ∧ IntsAt w aw ((ansL l).map fun (n : Nat) => (n : Int))) := ⟨hI2, hIw⟩
  have HK : Hid (w.ownsRow B 3 1 (.slice a2 n c2) n ((ansL l).map fun (n : Nat) => Value.int .i64 (n : Int))) := by rw [← e2, hn]; exact hk
  have HS : Hid (S9 W ao cap l wv inV b N w ∧ N ≤ B ∧ B ≤ w.heap.size ∧ (∀ g, vg.ownBlock = some g → g < B)) := ⟨hS, hNB, hB, hgB⟩
  have HG : Hid (w.ownsRow N 3 1 vg (n + 2) (List.replicate n (.int .i64 (-1)) ++ [.int .i64 (-2), .int .i64 (-3)])) := hg
  have HX : Hid (((ansL l).map fun (n : Nat) => (n : Int)).length = n) := hx
  clear hI2 hIw hk hS hg hNB hB hgB hx hn
  subst e2 e4 eg
  go_wp2_with fail
  have hcall := sameInts_eq a2 aw c2 cw ((ansL l).map fun (n : Nat) => (n : Int)) w HI.out.1 HI.out.2 (by rw [HX.out]; omega)
  rw [HX.out] at hcall
  refine hcall.mono ?_
  rintro e w1 ⟨rfl, H1⟩
  clear hcall
  have H0 : Hid (FillI w1 w1 B n (.slice a2 n c2) (.int .i64 (-4)) 0 ((ansL l).map fun (n : Nat) => Value.int .i64 (n : Int))) := ⟨World.grownBy.refl _ _, World.ownsRow.kept HK.out H1.out (by cases (Value.slice a2 n c2).ownBlock <;> simp), rfl⟩
  go_wp2_with fail
  go_loopw [16] (fun i wr => ∃ (k : Nat) (ys : List Value), i = .int .i64 (k : Int) ∧ k ≤ n ∧ Hid (FillI w1 wr B n (.slice a2 n c2) (.int .i64 (-4)) k ys)) (fun i _ => n - (intOf i).toNat)
  case atStart => exact ⟨0, _, rfl, Nat.zero_le _, H0⟩
  case round =>
    obtain ⟨k, ys, rfl, hk, H⟩ := hrel
    rcases Nat.lt_or_ge k n with hk' | hk'
    · obtain ⟨g, cp', e⟩ := ownsRow_form H.out.own (by omega)
      injection e with e1 _ e3
      subst e1 e3
      have i0 : (0 : Int) ≤ (k : Int) := by omega
      have i1 : (k : Int) < (n : Int) := by omega
      have hw1 : IntKind.i64.wrap ((k : Int) + 1) = (k : Int) + 1 := by rw [IntKind.wrap_i64]; omega
      obtain ⟨xk, hxk⟩ : ∃ xk, ys[k]? = some xk := ⟨_, List.getElem?_eq_getElem (show k < ys.length by have := H.out.own.1; omega)⟩
      have f1 := World.ownsRow.frozenAt H.out.own k
      have f2 : wr.cell? ⟨g, k, none⟩ = some xk := (World.ownsRow.cellAt H.out.own k (by omega)).trans hxk
      have HF := H.out.put hk'
      have HF : Hid (FillI w1 (wr.setCell ⟨g, k, none⟩ (.int .i64 (-4))) B n (.slice (some ⟨g, 0, none⟩) n c2) (.int .i64 (-4)) (k + 1) (ys.set k (.int .i64 (-4)))) := HF
      clear hxk
      go_wp2_with fail
      go_roundw
      case rel => exact ⟨k + 1, _, by go_num, hk', HF⟩
      case measure => simp [intOf]; omega
    · have e : k = n := by omega
      subst e
      have hsz : w.heap.size ≤ wr.heap.size := Nat.le_trans H1.out.size H.out.gr.size
      obtain ⟨vj, wj, k1, R⟩ := push2 (-5) (-6) H.out.all (by have := HS.out.2.2.1; omega) (by omega)
      have HT : Hid (KeptTo B w wj) := ((KeptTo.grown H1.out (HS.out.2.2.1) (by simp)).trans (KeptTo.grown H.out.gr (Nat.le_trans HS.out.2.2.1 H1.out.size) fun g hg => (ownsRow_blk HK.out g hg).1)).trans (KeptTo.grown R.out.1 (Nat.le_trans HS.out.2.2.1 hsz) fun g hg => (ownsRow_blk HK.out g hg).1)
      have HSj : Hid (S9 W ao cap l (.slice aw k cw) inV b N wj) := HS.out.1.to ⟨HT.out.os, HT.out.output, HT.out.size, fun r hr => HT.out.block r (by have := HS.out.2.1; omega)⟩
      have hgj := ownsRow_to HG.out HT.out HS.out.2.2.2
      obtain ⟨gj, cj, ej⟩ := ownsRow_form R.out.2 (by omega)
      have hj := R.out.2
      subst ej
      have G1 : Hid (∀ m, m < k → wj.cell? ⟨gg, m, none⟩ = some (.int .i64 (-1)) ∧ wj.cell? ⟨gj, m, none⟩ = some (.int .i64 (-4))) := fun m hm => ⟨(World.ownsRow.cellAt hgj m (by omega)).trans (rep_get hm), (World.ownsRow.cellAt hj m (by omega)).trans (rep_get hm)⟩
      have g2 : wj.cell? ⟨gg, k + 1, none⟩ = some (.int .i64 (-3)) := (World.ownsRow.cellAt hgj (k + 1) (by omega)).trans rep_last
      have g3 : wj.cell? ⟨gj, k + 1, none⟩ = some (.int .i64 (-6)) := (World.ownsRow.cellAt hj (k + 1) (by omega)).trans rep_last
      have G2 : Hid (wj.cell? ⟨gg, k + 1, none⟩ = some (.int .i64 (-3)) ∧ wj.cell? ⟨gj, k + 1, none⟩ = some (.int .i64 (-6))) := ⟨g2, g3⟩
      clear hgj hj g2 g3
      go_wp2_with (first | (at_builtin; refine Go.Lib.wpList_append_run _ rfl _ _ 46 46 rfl _ _ rfl rfl _ wj k1 ?_) | go_in)
      go_loopw [18] (fun i wr => ∃ m : Nat, i = .int .i64 (m : Int) ∧ m ≤ k + 2 ∧ wj = wr) (fun i _ => k + 2 - (intOf i).toNat)
      case atStart => exact ⟨0, rfl, Nat.zero_le _, rfl⟩
      case round =>
        obtain ⟨m, rfl, hm, rfl⟩ := hrel
        have hw1 : IntKind.i64.wrap ((m : Int) + 1) = (m : Int) + 1 := by rw [IntKind.wrap_i64]; omega
        rcases Nat.lt_or_ge m (k + 2) with hm' | hm'
        · have i1 : (m : Int) < (k : Int) + 2 := by omega
          rcases Nat.lt_or_ge m k with hmk | hmk
          · have i0 : (0 : Int) ≤ (m : Int) := by omega
            have i2 : (m : Int) < (k : Int) := by omega
            obtain ⟨x1, x2⟩ := G1.out m hmk
            go_wp2_with fail
            go_roundw
            case rel => exact ⟨m + 1, by go_num, hm', trivial⟩
            case measure => simp [intOf]; omega
          · have i2 : ¬(m : Int) < (k : Int) := by omega
            go_wp2_with fail
            go_roundw
            case rel => exact ⟨m + 1, by go_num, hm', trivial⟩
            case measure => simp [intOf]; omega
        · have e : m = k + 2 := by omega
          subst e
          go_wp2_with fail
          refine (back_any b ao cap l wj HSj.out.all HSj.out.args HSj.out.cap2 HSj.out.cap1).mono ?_
          rintro e w5 ⟨rfl, H5⟩
          have x1 := H5.out.kept' G2.out.1
          have x2 := H5.out.kept' G2.out.2
          have j1 : ¬(k : Int) + 2 < 2 := by omega
          have j2 : IntKind.i64.wrap ((k : Int) + 2 - 1) = (k : Int) + 1 := by rw [IntKind.wrap_i64]; omega
          have j3 : (0 : Int) ≤ (k : Int) + 1 := by omega
          have j4 : (k : Int) + 1 < (k : Int) + 2 := by omega
          have j5 : ((k : Int) + 1).toNat = k + 1 := by omega
          go_wp2_with fail
          exact ((HSj.out.to (KeptTo.grown H5.out HSj.out.n2 (by simp))).kept)

end Go.Proofs.Ytgeoffpcmkofkaa
/- Hulls, from its start to its end. (Made by gen9.py.) -/
namespace Go.Proofs.Ytgeoffpcmkofkaa
open Go Go.Conc Go.RowKit Fl Go.Maps Go.Lib Go.Joins
set_option maxRecDepth 100000

theorem A.leave9 {Post : Value → World → Prop} {a : Act} {todo : List Item} {w : World} (hd : a.defers = []) (h2 : a.tmps.getD 2 undef = .bool true) (h : ∀ w', Same w w' → Post (.bool true) w') : A Try.prog Post { (base 9).at a todo with mode := .returning } [] w := by
  refine A.fin (v := .bool true) fun w' hs => ⟨?_, h w' hs⟩
  have hf : Try.prog.funcs[9]? = some Try.f9 := Try.func9
  have hr : (results Try.f9 a.tmps).run Try.prog w' = .ok (.bool true) w' := by simp [results, Try.f9, ← h2]
  have he : (results Try.f9 a.tmps).events Try.prog w' #[] = #[] := by simp [results, Try.f9]
  simp [Conc.G, stepG, unwind, doReturn, Frame.at, show (base 9).kind = .normal from rfl, show (base 9).fn = 9 from rfl, hd, hf, hr, he, seen, GStep.after]
noncomputable def c9h : Code := match c9d with
  | .seq r _ => r
  | _ => .skip
theorem c9c_eq : c9c = .seq c9s c9d := rfl

set_option maxHeartbeats 2000000 in
theorem A.h9c {Post : Value → World → Prop} {W : World} {ao : Option Addr} {cap : Nat} {l : Pts} {wv inV v : Value} {b N : Nat} {w : World} (hS : S9 W ao cap l wv inV b N w) (hG : GN ≤ W.heap.size) (h : ∀ w', Kept W w' → Post (.bool true) w')
    (hv : w.ownsRow N 3 1 v (ansL l).length (List.replicate (ansL l).length (.int .i64 (-1)))) (t11 t20 t21 t22 t23 t24 t25 t26 t27 t28 t29 t30 t31 t32 t33 t34 t35 t36 t37 t38 t39 t40 t41 t42 t43 t44 t45 t46 t47 t48 t49 t50 : Value) :
    A Try.prog Post ((base 9).at { tmps := #[.slice ao l.length cap, undef, .bool false, .int .i64 (errL l), wv, .slice (some ⟨b, 0, none⟩) (l.length + 1) (l.length + 1), inV, v, .int .i64 (errL l), .bool true, .bool true, t11, undef, undef, undef, undef, undef, undef, undef, undef, t20, t21, t22, t23, t24, t25, t26, t27, t28, t29, t30, t31, t32, t33, t34, t35, t36, t37, t38, t39, t40, t41, t42, t43, t44, t45, t46, t47, t48, t49, t50, undef, undef, undef, undef, undef, undef, undef, undef, undef, undef, undef, undef, undef, undef, undef, undef, undef, undef, undef, undef, undef, undef, undef, undef, undef, undef, undef, undef, undef, undef, undef, undef, undef, undef, undef, undef, undef, undef, undef, undef, undef, undef, undef, undef, undef, undef, undef, undef, undef, undef, undef, undef, undef, undef, undef, undef, undef, undef, undef, undef, undef, undef, undef, undef, undef, undef, undef, undef, undef, undef, undef, undef, undef, undef, undef, undef, undef, undef, undef, undef, undef, undef, undef, undef, undef, undef, undef, undef, undef, undef, undef, undef, undef], defers := [] } [.code c9c]) [] w := by
  have h40 := ansL_len l
  rw [c9c_eq]
  refine .ctl (fun _ => stepG_seq) ?_
  refine A.seg bodP noEarly (fn := Try.f9) Try.func9 rfl (c := c9s) codeP9s (k := [.code c9d]) rfl (Q := QS9 ao cap l wv inV v b t11 t20 t21 t22 t23 t24 t25 t26 t27 t28 t29 t30 t31 t32 t33 t34 t35 t36 t37 t38 t39 t40 t41 t42 t43 t44 t45 t46 t47 t48 t49 t50 fun vg w' => KeptTo N w w' ∧ w'.ownsRow N 3 1 vg ((ansL l).length + 2) (List.replicate (ansL l).length (.int .i64 (-1)) ++ [.int .i64 (-2), .int .i64 (-3)])) ?_ (fun w' hs => ?_) ?_
  · rintro a w1 w2 hs ⟨vg, t51, t52, t53, rfl, h1, h2⟩
    exact ⟨vg, t51, t52, t53, rfl, h1.same hs, ownsRow_same h2 hs⟩
  · refine seg9 ao cap l wv inV v b N (ansL l).length _ w' (ownsRow_same hv hs) (by rw [hs.heap]; exact hS.n2) (by omega) _ (fun vg w2 h1 h2 => ⟨?_, h2⟩) t11 t20 t21 t22 t23 t24 t25 t26 t27 t28 t29 t30 t31 t32 t33 t34 t35 t36 t37 t38 t39 t40 t41 t42 t43 t44 t45 t46 t47 t48 t49 t50
    exact (KeptTo.refl N w).same hs |>.trans (KeptTo.grown h1 (by rw [hs.heap]; exact hS.n2) fun g hg => (ownsRow_blk hv g hg).1)
  rintro a w8 ⟨vg, t51, t52, t53, rfl, hK8, hO8⟩
  have hS8 := hS.to hK8
  simp only [c9d, c9c, c9b, Try.f9]
  refine .ctl (fun _ => stepG_seq) ?_
  refine .ctl (fun _ => stepG_region) ?_
  walk_nrm
  refine .mov (inV) rfl rfl (.inl rfl) rfl (by decide) ?_
  walk_nrm
  refine .ent (f := 32) (xs := #[inV]) rfl rfl (by decide) (fun w' => by go_simp) (fun w' => by simp [go_sem, callFunc, Try.func32, Try.f32]) ?_
  refine A.hullA hS8.row (Nat.le_trans hG hS8.kept.size) fun vk w9 hk9 hO9 => ?_
  rw [Frame.finish_at]
  walk_nrm
  refine .mov (.tuple #[vk, .int .i64 (errL l)]) rfl rfl (.inl rfl) rfl (by decide) ?_
  walk_nrm
  refine .val (vk) bodP.func rfl rfl (by decide) trivial (fun w' _ => by go_simp) ?_
  walk_nrm
  refine .val (.int .i64 (errL l)) bodP.func rfl rfl (by decide) trivial (fun w' _ => by go_simp) ?_
  walk_nrm
  refine .mov (vk) rfl rfl (.inr rfl) rfl (by decide) ?_
  walk_nrm
  refine .mov (.int .i64 (errL l)) rfl rfl (.inr rfl) rfl (by decide) ?_
  walk_nrm
  refine .ctl (fun _ => stepG_region_end) ?_
  refine A.rest bodP noEarly (fn := Try.f9) Try.func9 rfl (c := c9r) codeP9r rfl (Q := fun a w' => a.tmps.getD 2 undef = .bool true ∧ Hid (Kept W w')) (fun a w1 w2 hs q => ⟨q.1, q.2.out.same hs⟩) (fun w' hs => ?_) (fun a w' todo hd hq => A.leave9 hd hq.1 fun w2 hs => h w2 (hq.2.out.same hs))
  have hk' : Kept w8 w' := hk9.same hs
  exact rest9 W ao cap l wv inV v vg vk b N w8.heap.size w' (hS8.to (hk'.to hS8.n2)) hS8.n2 (ownsRow_to hO8 (hk'.to (Nat.le_refl _)) fun g hg => (ownsRow_blk hO8 g hg).2) (fun g hg => (ownsRow_blk hO8 g hg).2) hk'.size (hO9.same hs) _ _ _ _ _ _ _ _ _ _ _ _ _ _ _ _ _ _ _ _ _ _ _ _ _ _ _ _ _ _ _ _ _ _ _ _ _ _ _ _ 

set_option maxHeartbeats 4000000 in
theorem A.h9b {Post : Value → World → Prop} {W : World} {ao : Option Addr} {cap : Nat} {l : Pts} {wv : Value} {w : World} (hP : PolyAt W ao l) (hc : l.length ≤ cap) (hs : cap ≤ 10000000000000) (hn : ao = none → cap = 0) (hG : GN ≤ W.heap.size) (h : ∀ w', Kept W w' → Post (.bool true) w')
    (hK : Kept W w) (hw : OwnN w W.heap.size wv (ansL l)) (t20 t21 t22 t23 t24 t25 : Value) :
    A Try.prog Post ((base 9).at { tmps := #[.slice ao l.length cap, undef, .bool false, .int .i64 (errL l), wv, undef, undef, undef, undef, undef, undef, undef, undef, undef, undef, undef, undef, undef, undef, undef, t20, t21, t22, t23, t24, t25, undef, undef, undef, undef, undef, undef, undef, undef, undef, undef, undef, undef, undef, undef, undef, undef, undef, undef, undef, undef, undef, undef, undef, undef, undef, undef, undef, undef, undef, undef, undef, undef, undef, undef, undef, undef, undef, undef, undef, undef, undef, undef, undef, undef, undef, undef, undef, undef, undef, undef, undef, undef, undef, undef, undef, undef, undef, undef, undef, undef, undef, undef, undef, undef, undef, undef, undef, undef, undef, undef, undef, undef, undef, undef, undef, undef, undef, undef, undef, undef, undef, undef, undef, undef, undef, undef, undef, undef, undef, undef, undef, undef, undef, undef, undef, undef, undef, undef, undef, undef, undef, undef, undef, undef, undef, undef, undef, undef, undef, undef, undef, undef, undef, undef, undef, undef, undef, undef], defers := [] } [.code c9b]) [] w := by
  have h40 := ansL_len l
  simp only [c9b, Try.f9]
  refine .ctl (fun _ => stepG_seq) ?_
  refine .ctl (fun _ => stepG_region) ?_
  walk_nrm
  refine .mov (.slice ao l.length cap) rfl rfl (.inl rfl) rfl (by decide) ?_
  walk_nrm
  refine .ent (f := 26) (xs := #[.slice ao l.length cap]) rfl rfl (by decide) (fun w' => by go_simp) (fun w' => by simp [go_sem, callFunc, Try.func26, Try.f26]) ?_
  refine A.call bodP noEarly fs26 Try.func26 (c := Try.f26.body.getD .skip) rfl (Q := fun v w' => ∃ inV, v = .tuple #[.slice (some ⟨w.heap.size, 0, none⟩) (l.length + 1) (l.length + 1), inV] ∧ ((inV = .slice none 0 0 ∧ l = []) ∨ inV = .slice (some ⟨w.heap.size, 0, none⟩) l.length (l.length + 1)) ∧ Kept w w' ∧ w'.heap[w.heap.size]? = some (.cells (flatP (l ++ [(0, 0)])).toArray 23 (0, 0))) ?_ (fun w' hs' => (lent_poly ao cap l w' ((hP.keptB hK).heap hs'.heap) hs hc hn).mono ?_) fun tv w3 hq => ?_
  · rintro v w1 w2 k ⟨inV, h1, h2, h3, h4⟩
    exact ⟨inV, h1, h2, h3.same k, by rw [k.heap]; exact h4⟩
  · rintro e w2 ⟨inV, rfl, h2, H⟩
    have hr := H.out.row
    rw [hs'.heap] at h2 hr ⊢
    exact ⟨_, rfl, inV, rfl, h2, H.out.new.kept0 hs', hr⟩
  obtain ⟨inV, rfl, hin, hk3, hblk⟩ := hq
  obtain ⟨b, hb⟩ : ∃ b, b = w.heap.size := ⟨_, rfl⟩
  rw [← hb] at hin hblk ⊢
  have hblt : b < w3.heap.size := (Array.getElem?_eq_some_iff.1 hblk).1
  have hS3 : S9 W ao cap l wv inV b w3.heap.size w3 := ⟨hK.trans hk3, (hK.trans hk3).size, Nat.le_refl _, hblt, by rw [hb]; exact Nat.le_trans hG hK.size, hw.to (hk3.to (Nat.le_refl _)) fun g hg => (hw.lt g hg).2, fun g hg => Nat.lt_of_lt_of_le (hw.lt g hg).2 hk3.size, hblk, hin, hP, hc, hs⟩
  rw [Frame.finish_at]
  walk_nrm
  refine .mov (.tuple #[.slice (some ⟨b, 0, none⟩) (l.length + 1) (l.length + 1), inV]) rfl rfl (.inl rfl) rfl (by decide) ?_
  walk_nrm
  refine .val (.slice (some ⟨b, 0, none⟩) (l.length + 1) (l.length + 1)) bodP.func rfl rfl (by decide) trivial (fun w' _ => by go_simp) ?_
  walk_nrm
  refine .val (inV) bodP.func rfl rfl (by decide) trivial (fun w' _ => by go_simp) ?_
  walk_nrm
  refine .mov (.slice (some ⟨b, 0, none⟩) (l.length + 1) (l.length + 1)) rfl rfl (.inr rfl) rfl (by decide) ?_
  walk_nrm
  refine .mov (inV) rfl rfl (.inr rfl) rfl (by decide) ?_
  walk_nrm
  refine .ctl (fun _ => stepG_region_end) ?_
  refine .ctl (fun _ => stepG_seq) ?_
  refine .ctl (fun _ => stepG_region) ?_
  walk_nrm
  refine .mov (inV) rfl rfl (.inl rfl) rfl (by decide) ?_
  walk_nrm
  refine .ent (f := 32) (xs := #[inV]) rfl rfl (by decide) (fun w' => by go_simp) (fun w' => by simp [go_sem, callFunc, Try.func32, Try.f32]) ?_
  refine A.hullA hS3.row (Nat.le_trans hG hS3.kept.size) fun v w4 hk4 hO4 => ?_
  have hS4 := hS3.to (hk4.to (Nat.le_refl _))
  rw [Frame.finish_at]
  walk_nrm
  refine .mov (.tuple #[v, .int .i64 (errL l)]) rfl rfl (.inl rfl) rfl (by decide) ?_
  walk_nrm
  refine .val (v) bodP.func rfl rfl (by decide) trivial (fun w' _ => by go_simp) ?_
  walk_nrm
  refine .val (.int .i64 (errL l)) bodP.func rfl rfl (by decide) trivial (fun w' _ => by go_simp) ?_
  walk_nrm
  refine .mov (v) rfl rfl (.inr rfl) rfl (by decide) ?_
  walk_nrm
  refine .mov (.int .i64 (errL l)) rfl rfl (.inr rfl) rfl (by decide) ?_
  walk_nrm
  refine .ctl (fun _ => stepG_region_end) ?_
  refine .ctl (fun _ => stepG_seq) ?_
  refine .ctl (fun _ => stepG_region) ?_
  walk_nrm
  refine .mov (.slice (some ⟨b, 0, none⟩) (l.length + 1) (l.length + 1)) rfl rfl (.inl rfl) rfl (by decide) ?_
  walk_nrm
  refine .mov (.slice ao l.length cap) rfl rfl (.inl rfl) rfl (by decide) ?_
  walk_nrm
  refine .ent (f := 28) (xs := #[.slice (some ⟨b, 0, none⟩) (l.length + 1) (l.length + 1), .slice ao l.length cap]) rfl rfl (by decide) (fun w' => by go_simp) (fun w' => by simp [go_sem, callFunc, Try.func28, Try.f28]) ?_
  refine A.call bodP noEarly fs28 Try.func28 (c := Try.f28.body.getD .skip) rfl (Q := fun v w' => v = .bool true ∧ Kept w4 w') (fun v w1 w2 k q => ⟨q.1, q.2.same k⟩) (fun w' hs' => (back_any b ao cap l w' (hS4.all.heap (by rw [hs'.heap])) (hS4.args.heap hs'.heap) hs hc).mono ?_) fun tv w5 hq => ?_
  · rintro e w2 ⟨rfl, H⟩
    exact ⟨_, rfl, rfl, H.out.kept0 hs'⟩
  obtain ⟨rfl, hk5⟩ := hq
  have hS5 := hS4.to (hk5.to hS4.n2)
  have hO5 : OwnN w5 w3.heap.size v (ansL l) := hO4.to (hk5.to (Nat.le_refl _)) fun g hg => (hO4.lt g hg).2
  rw [Frame.finish_at]
  walk_nrm
  refine .mov (.bool true) rfl rfl (.inr rfl) rfl (by decide) ?_
  walk_nrm
  refine .ctl (fun _ => stepG_region_end) ?_
  refine .ctl (fun _ => stepG_seq) ?_
  refine .ctl (fun _ => stepG_region) ?_
  walk_nrm
  refine .mov (v) rfl rfl (.inl rfl) rfl (by decide) ?_
  walk_nrm
  refine .mov (wv) rfl rfl (.inl rfl) rfl (by decide) ?_
  walk_nrm
  refine .ent (f := 33) (xs := #[v, wv]) rfl rfl (by decide) (fun w' => by go_simp) (fun w' => by simp [go_sem, callFunc, Try.func33, Try.f33]) ?_
  refine A.call bodP noEarly fs33 Try.func33 (c := Try.f33.body.getD .skip) rfl (Q := fun v w' => v = .bool true ∧ Kept w5 w') (fun v w1 w2 k q => ⟨q.1, q.2.same k⟩) (fun w' hs' => ?_) fun tv w6 hq => ?_
  · obtain ⟨a1, c1, e1, h1⟩ := (hO5.same hs').ints
    obtain ⟨a2, c2, e2, h2⟩ := (hS5.want.same hs').ints
    rw [e1, e2]
    refine (sameInts_eq a1 a2 c1 c2 _ w' h1 h2 (by rw [List.length_map]; omega)).mono ?_
    rintro e w2 ⟨rfl, H⟩
    exact ⟨_, rfl, rfl, H.out.kept0 hs'⟩
  obtain ⟨rfl, hk6⟩ := hq
  have hS6 := hS5.to (hk6.to hS5.n2)
  have hO6 : OwnN w6 w3.heap.size v (ansL l) := hO5.to (hk6.to (Nat.le_refl _)) fun g hg => (hO5.lt g hg).2
  rw [Frame.finish_at]
  walk_nrm
  refine .mov (.bool true) rfl rfl (.inr rfl) rfl (by decide) ?_
  walk_nrm
  refine .ctl (fun _ => stepG_region_end) ?_
  refine .ctl (fun _ => stepG_seq) ?_
  refine A.seg bodP noEarly (fn := Try.f9) Try.func9 rfl (c := c9l) codeP9l (k := [.code c9c]) rfl (Q := QL9 ao cap l wv inV v b _ _ _ _ _ _ _ _ _ _ _ _ _ _ _ _ _ _ _ _ _ _  fun w' => KeptTo w3.heap.size w6 w' ∧ w'.ownsRow w3.heap.size 3 1 v (ansL l).length (List.replicate (ansL l).length (.int .i64 (-1)))) ?_ (fun w' hs' => loop9 ao cap l wv inV v b w3.heap.size (ansL l).length _ w' (hO6.same hs') (by omega) _ (fun w2 h1 h2 => ⟨(KeptTo.refl _ w6).same hs' |>.trans (KeptTo.grown h1 (by rw [hs'.heap]; exact hS6.n2) fun g hg => (hO6.lt g hg).1), h2⟩) _ _ _ _ _ _ _ _ _ _ _ _ _ _ _ _ _ _ _ _ _ _ ) ?_
  · rintro a w1 w2 hs' ⟨t11, t42, t43, t44, t45, t46, t47, t48, t49, t50, rfl, h1, h2⟩
    exact ⟨t11, t42, t43, t44, t45, t46, t47, t48, t49, t50, rfl, h1.same hs', ownsRow_same h2 hs'⟩
  rintro a w7 ⟨t11, t42, t43, t44, t45, t46, t47, t48, t49, t50, rfl, hK7, hO7⟩
  exact A.h9c (hS6.to hK7) hG h hO7 _ _ _ _ _ _ _ _ _ _ _ _ _ _ _ _ _ _ _ _ _ _ _ _ _ _ _ _ _ _ _ _ 

set_option maxHeartbeats 4000000 in
/-- Hulls answers true, and leaves what there was as it was. -/
theorem A.hulls {Post : Value → World → Prop} {W : World} {ao : Option Addr} {cap : Nat} {l : Pts} (hP : PolyAt W ao l) (hc : l.length ≤ cap) (hs : cap ≤ 10000000000000) (hn : ao = none → cap = 0) (hG : GN ≤ W.heap.size) (h : ∀ w', Kept W w' → Post (.bool true) w') :
    A Try.prog Post (Frame.enter Try.prog 9 #[.slice ao l.length cap] .normal) [] W := by
  rw [Conc.enter_at _ Try.func9 (c := Try.f9.body.getD .skip) rfl]
  walk_nrmf Try.f9
  refine .ctl (fun _ => stepG_seq) ?_
  refine .ctl (fun _ => stepG_region) ?_
  walk_nrm
  refine .mov (.bool false) rfl rfl (.inr rfl) rfl (by decide) ?_
  walk_nrm
  refine .ctl (fun _ => stepG_region_end) ?_
  refine .ctl (fun _ => stepG_seq) ?_
  refine .ctl (fun _ => stepG_region) ?_
  walk_nrm
  refine .mov (.slice ao l.length cap) rfl rfl (.inl rfl) rfl (by decide) ?_
  walk_nrm
  refine .ent (f := 30) (xs := #[.slice ao l.length cap]) rfl rfl (by decide) (fun w' => by go_simp) (fun w' => by simp [go_sem, callFunc, Try.func30, Try.f30]) ?_
  refine A.call bodP noEarly fs30 Try.func30 (c := Try.f30.body.getD .skip) rfl (Q := fun v w' => v = .int .i64 (errL l) ∧ Kept W w') (fun v w1 w2 k q => ⟨q.1, q.2.same k⟩) (fun w' hs' => (refused_any ao cap l w' (hP.heap hs'.heap) hc (by omega)).mono ?_) fun tv w1 hq => ?_
  · rintro e w2 ⟨rfl, H⟩
    exact ⟨_, rfl, rfl, H.out.kept0 hs'⟩
  obtain ⟨rfl, hk1⟩ := hq
  rw [Frame.finish_at]
  walk_nrm
  refine .mov (.int .i64 (errL l)) rfl rfl (.inr rfl) rfl (by decide) ?_
  walk_nrm
  refine .ctl (fun _ => stepG_region_end) ?_
  refine .ctl (fun _ => stepG_seq) ?_
  refine .ctl (fun _ => stepG_region) ?_
  walk_nrm
  refine .mov (.slice none 0 0) rfl rfl (.inr rfl) rfl (by decide) ?_
  walk_nrm
  refine .ctl (fun _ => stepG_region_end) ?_
  refine .ctl (fun _ => stepG_seq) ?_
  refine .ctl (fun _ => stepG_seq) ?_
  refine .ctl (fun _ => stepG_region) ?_
  walk_nrm
  refine .mov (.int .i64 (errL l)) rfl rfl (.inl rfl) rfl (by decide) ?_
  walk_nrm
  refine .val (.bool (decide (errL l = 0))) bodP.func rfl rfl (by decide) trivial (fun w' _ => ?_) ?_
  · simp [go_sem]
    by_cases he : errL l = 0 <;> simp [he]
  walk_nrm
  refine .ctl (fun _ => stepG_region_end) ?_
  by_cases he : errL l = 0
  · refine .ctl (fun _ => stepG_cond (t := true) (by simp [Act.eval, he])) ?_
    simp only [if_true]
    refine .ctl (fun _ => stepG_region) ?_
    walk_nrm
    refine .mov (.slice ao l.length cap) rfl rfl (.inl rfl) rfl (by decide) ?_
    walk_nrm
    refine .ent (f := 31) (xs := #[.slice ao l.length cap]) rfl rfl (by decide) (fun w' => by go_simp) (fun w' => by simp [go_sem, callFunc, Try.func31, Try.f31]) ?_
    refine A.call bodP noEarly fs31 Try.func31 (c := Try.f31.body.getD .skip) rfl (Q := fun v w' => Kept w1 w' ∧ OwnN w' w1.heap.size v (ansL l)) (fun v w1 w2 k q => ⟨q.1.same k, q.2.same k⟩) (fun w' hs' => (refHull_poly ao cap l w' ((hP.keptB hk1).heap hs'.heap) (by have := (errL_zero he).1; omega) (errL_zero he).2).mono ?_) fun wv w2 hq => ?_
    · rintro e w2 ⟨v, rfl, H⟩
      refine ⟨v, rfl, H.out.1.kept0 hs', ?_⟩
      have := H.out.2
      rw [hs'.heap] at this
      unfold ansL
      rw [if_pos he]
      exact this
    obtain ⟨hk2, hw2⟩ := hq
    rw [Frame.finish_at]
    walk_nrm
    refine .mov (wv) rfl rfl (.inr rfl) rfl (by decide) ?_
    walk_nrm
    refine .ctl (fun _ => stepG_region_end) ?_
    exact A.h9b hP hc hs hn hG h (hk1.trans hk2) (hw2.le hk1.size) _ _ _ _ _ _ 
  · refine .ctl (fun _ => stepG_cond (t := false) (by simp [Act.eval, he])) ?_
    simp only [Bool.false_eq_true, if_false]
    refine .ctl (fun _ => stepG_skip) ?_
    exact A.h9b hP hc hs hn hG h hk1 (by unfold ansL; rw [if_neg he]; exact OwnN.nil _ _) _ _ _ _ _ _ 

end Go.Proofs.Ytgeoffpcmkofkaa
/- For every three points the law Sides returns true: plumb.Side tells the side that whole numbers tell, without any rounding, or refuses a coordinate that may not be. No condition. -/
namespace Go.Proofs.Ytgeoffpcmkofkaa
open Go.ChangeShapes Go.WideShapes Go.ChangeAt Go.RowKit Go.Joins
set_option maxRecDepth 100000

theorem Try.own : ownKnob Try.prog.godebug = none := by kernel_rfl
theorem Try.cells23 : Try.prog.cellsOf 23 = 2 := by kernel_rfl

theorem New.below {w w' : World} (h : New w w') : Below w.heap.size w w' := ⟨h.os, h.tape, h.output, h.size, fun k hk => h.block k hk (by simp)⟩

/-- A point, opened. -/
theorem open_pt {H : Type} {enc : TypeId × Value → H} {W : World} {base b0 : Nat} {r : Go.Reach} {sp : Nat → Bool} {v : Value} {d : DataW H} {p : List MemPlace} (hv : Value.okWide Try.prog W r b0 23 v) (h : DataW.Trod enc Try.prog W base sp true 23 v d p) :
    ∃ x y : Int, v = .agg #[.int .i64 x, .int .i64 y] ∧ d = .agg [.lit (.int .i64 x), .lit (.int .i64 y)] ∧ p = [] ∧ (Lit.int .i64 x).wf = true ∧ (Lit.int .i64 y).wf = true := by
  obtain ⟨c0, c1, y0, y1, m, rfl, rfl, rfl, hy0, hy1⟩ := open_agg2 Try.underlying23 (by kernel_rfl) Try.cells23 hv h
  obtain ⟨x, e0, rfl, wx⟩ := DataW.trod_int Try.underlying3 hy0
  obtain ⟨y, e1, rfl, wy⟩ := DataW.trod_int Try.underlying3 hy1
  simp at e0 e1
  subst e0 e1
  exact ⟨x, y, rfl, rfl, rfl, wx, wy⟩

/-- A point, shut. -/
theorem shut_pt {H : Type} {enc : TypeId × Value → H} {W : World} {base : Nat} {sp : Nat → Bool} {x y : Int} (wx : (Lit.int .i64 x).wf = true) (wy : (Lit.int .i64 y).wf = true) :
    DataW.Trod enc Try.prog W base sp true 23 (.agg #[.int .i64 x, .int .i64 y]) (.agg [.lit (.int .i64 x), .lit (.int .i64 y)]) [] :=
  shut_agg2 (y0 := (.lit (.int .i64 x), [])) (y1 := (.lit (.int .i64 y), [])) Try.underlying23 (by kernel_rfl) Try.cells23 ⟨1, by simp [DataW.trod, Try.underlying3, wx]⟩ ⟨1, by simp [DataW.trod, Try.underlying3, wy]⟩

set_option maxRecDepth 100000 in
theorem sides_lifted (os : Os) (started : os.Started) (H : Type) (enc : TypeId × Value → H) :
    ReturnsInHanded {} Try.checked os 3 .any (Rows.sidesSpec.pre6 enc Try.prog Try.f3 Rows.sidesRow.domain false) (Rows.sidesSpec.post enc Try.prog Try.f3 false true false false) := by
  refine returnsInHanded_of_change (C := Try.checked) Try.own started (by kernel_rfl) Try.func3
    (ChangeSpec.witness6 (enc := enc) (C := Try.checked) false ⟨#[], #[.agg #[.int .i64 0, .int .i64 0], .agg #[.int .i64 0, .int .i64 0], .agg #[.int .i64 0, .int .i64 0]], []⟩ 8 (by kernel_rfl) (by kernel_rfl) (by kernel_rfl) (by kernel_rfl)) ?_
  intro W base args ds gs before hval0 hW hcnd _
  have hval : ∀ (j : Nat) t v, Try.f3.params[j]? = some t → args[j]? = some v → Value.okWide Try.prog W .any base t v := hval0
  have hW' := hW
  obtain ⟨p, q, hA0, hV, rfl, _, _⟩ := hW
  have hA : DataW.TrodAll enc Try.prog W 0 (fun _ => true) true Try.f3.params.toList args.toList ds p := hA0
  rw [Try.params3] at hA hval
  obtain ⟨v0, v1, v2, d0, d1, d2, p0, p1, p2, rfl, rfl, rfl, h0, h1, h2⟩ := trodAll_three hA
  obtain ⟨rfl, rfl⟩ := trodVars_none hV
  obtain ⟨ax, ay, rfl, rfl, rfl, wax, way⟩ := open_pt (hval 0 23 v0 rfl rfl) h0
  obtain ⟨bx, by', rfl, rfl, rfl, wbx, wby⟩ := open_pt (hval 1 23 v1 rfl rfl) h1
  obtain ⟨cx, cy, rfl, rfl, rfl, wcx, wcy⟩ := open_pt (hval 2 23 v2 rfl rfl) h2
  clear hA0 hval0
  refine (sides_any ax ay bx by' cx cy W).mono fun e W' ⟨he, hn⟩ => ?_
  subst he
  exact ⟨_, rfl, _, _, _, [], _, [], hW', trodAll_mk1 (shut_bool Try.underlying4 _), trodAll_mk3 (shut_pt wax way) (shut_pt wbx wby) (shut_pt wcx wcy), rfl, (New.below hn.out).frame _, fun h => by cases h⟩

theorem sides_holds : Rows.SidesSaid :=
  OpenClaim.holds_of_wide 3 Try.f3 rfl rfl rfl rfl rfl rfl rfl ⟨rfl, rfl, rfl, rfl, rfl⟩ rfl rfl rfl rfl rfl (by kernel_rfl) Try.func3 (by kernel_rfl)
    (of_decide_eq_true (by kernel_rfl)) (by unfold Func.isWrapper; rw [if_neg (of_decide_eq_false (by kernel_rfl))]; exact ⟨rfl, rfl⟩)
    (fun os started H enc _ => sides_lifted os started H enc)

#print axioms sides_holds
end Go.Proofs.Ytgeoffpcmkofkaa
/- From a walk beside goroutines that only leave to the row's contract. -/
namespace Go.Proofs.Ytgeoffpcmkofkaa
open Go Go.Conc
set_option maxRecDepth 100000

theorem A.start {P : Program} {Post : Value → World → Prop} {fr : Frame} {W : World} (h : A P Post fr [] W) : Fine P Post (solo (G fr []) W) #[] :=
  h #[G fr []] W none #[] (fun _ => 0) none (Same.refl W) rfl (leavers_one P _) (past_nil.mono (Nat.zero_le _))
theorem begun : GN < (begin Try.prog (fun _ _ => 0) default).world.heap.size := of_decide_eq_true (by kernel_rfl)
theorem shaped_GN {w : World} (h : w.ShapedOpen Try.prog) : GN ≤ w.heap.size := by
  obtain ⟨o, _, h1, _⟩ := h.2 GN (Nat.le_refl _) begun
  exact Nat.le_of_lt (Array.getElem?_eq_some_iff.1 h1).1
section
variable {H : Type} {enc : TypeId × Value → H}
/-- A walk from every start gives the contract. -/
theorem leaves {a : Assume} {os : Os} {f : FuncId} {fn : Func} {s : ChangeSpec} {conds : List PathCond} {apart fresh handsOn again : Bool}
    (own : ownKnob Try.checked.prog.godebug = none) (started : os.Started) (hfn : Try.checked.prog.funcs[f]? = some fn)
    (witness : ∃ (w : World) (tape : Tape) (i : Input), w.os = os ∧ (w.forCall tape i).Shaped Try.checked.prog ∧ i.vars = [] ∧ Input.okWide Try.checked.prog (w.forCall tape i) .any w.heap.size f i ∧
      s.pre6 enc Try.checked.prog fn conds apart (w.forCall tape i).memory i.args ∧ a.holds Try.checked.prog (lone (Frame.enter Try.checked.prog f i.args .normal) [] (w.forCall tape i)))
    (runs : ∀ (W : World) (base : Nat) (args : Array Value) (ds gs : List (DataW H)) (before : List MemPlace), GN ≤ W.heap.size →
      (∀ (j : Nat) t v, fn.params[j]? = some t → args[j]? = some v → Value.okWide Try.checked.prog W .any base t v) →
      DataW.Whole enc Try.checked.prog fn.params.toList s.vars apart W args.toList ds gs before →
      (DataW.weightsEach Try.checked.prog (fn.params.toList ++ s.plain.varTypes Try.checked.prog) (ds ++ gs)).all (· ≤ reachBytes) = true →
      A Try.checked.prog (fun v W' => s.post enc Try.checked.prog fn apart fresh handsOn again W args v W') (Frame.enter Try.checked.prog f args .normal) [] W) :
    ReturnsInLeavingWide a Try.checked os f .any (s.pre6 enc Try.checked.prog fn conds apart) (s.post enc Try.checked.prog fn apart fresh handsOn again) := by
  refine returnsInLeavingWide_of_good own started witness ?_
  intro w tape i _ hsh _ hok hpre _
  obtain ⟨_, _, _, fn', hfn', _, _, _, _, hval⟩ := hok
  have e : fn' = fn := Option.some.inj (hfn'.symm.trans hfn)
  subst e
  obtain ⟨⟨ds, gs, before, hw, _⟩, hz⟩ := hpre
  have hw' := DataW.Whole.of_heap (w' := w.forCall tape i) (by rfl) hw
  obtain ⟨M, last, o, w', t', h1, h2, h3, h4⟩ := (runs (w.forCall tape i) w.heap.size i.args ds gs before (shaped_GN hsh) hval hw' (hz.weights hw)).start
  exact ⟨M, last, o, w', t', h1, h2, h3, h4.mono fun v hp => ChangeSpec.post_blind hp⟩
end
end Go.Proofs.Ytgeoffpcmkofkaa
/- A list of points, as an argument, opened; and kept. -/
namespace Go.Proofs.Ytgeoffpcmkofkaa
open Go.ChangeShapes Go.WideShapes Go.ChangeAt Go.RowKit Go.Joins Go.Deep Fl
set_option maxRecDepth 100000

theorem listLaid : laidOutB Try.prog = true := by kernel_rfl
theorem listBytes : Try.prog.bytesOf 23 = 16 := by kernel_rfl

/-- A list of points, opened. -/
theorem open_list {H : Type} {enc : TypeId × Value → H} {W : World} {b0 : Nat} {r : Go.Reach} {v : Value} {d : DataW H} {p : List MemPlace} (hv : Value.okWide Try.prog W r b0 28 v) (h : DataW.Trod enc Try.prog W 0 (fun _ => true) true 28 v d p) :
    (v = .slice none 0 0 ∧ d = .nil) ∨ ∃ (a : Addr) (cap : Nat) (l : Pts) (elems spare : List (DataW H)), v = .slice (some a) l.length cap ∧ l.length ≤ cap ∧ PolyAt W (some a) l ∧ In64 l ∧ d = .slice elems spare ∧ elems.length + spare.length = cap := by
  obtain ⟨a0, len, cap, rfl⟩ := okWide_slice Try.underlying28 hv
  obtain ⟨fuel, hf⟩ := h
  rcases open_slice_pairs Try.underlying28 Try.underlying23 Try.cells23 rfl rfl (by kernel_rfl) (by kernel_rfl) hf with ⟨hcs, hx⟩ | ⟨a, len', cap', m, n, V0, V1, D0, D1, P0, P1, hcs, _, hl, hm, hmm, hx, hcell⟩
  · simp [Value.cells] at hcs
    obtain ⟨rfl, rfl, rfl⟩ := hcs
    simp only [Prod.mk.injEq] at hx
    exact Or.inl ⟨rfl, hx.1⟩
  · simp [Value.cells] at hcs
    obtain ⟨rfl, rfl, rfl⟩ := hcs
    simp only [if_true] at hmm
    subst hmm
    simp only [Prod.mk.injEq] at hx
    have each : ∀ i, i < m → ∃ q : Int × Int, W.cell? (a.add (i * 2)) = some (.int .i64 q.1) ∧ W.cell? (a.add (i * 2 + 1)) = some (.int .i64 q.2) ∧ (Lit.int .i64 q.1).wf = true ∧ (Lit.int .i64 q.2).wf = true := by
      intro i hi
      obtain ⟨e0, e1, e2, e3⟩ := hcell i hi
      obtain ⟨x, f0, _, wx⟩ := DataW.trod_int Try.underlying3 e2
      obtain ⟨y, f1, _, wy⟩ := DataW.trod_int Try.underlying3 e3
      refine ⟨(x, y), ?_, ?_, wx, wy⟩
      · rw [e0]; simpa using f0
      · rw [e1]; simpa using f1
    obtain ⟨q, hq⟩ := choose_lt each
    refine Or.inr ⟨a, m, (List.range len).map q, _, _, by simp, by simpa using hl, ?_, ?_, hx.1, by simp; omega⟩
    · intro h0
      have hlen : 0 < len := by simpa using h0
      obtain ⟨b, off, spot⟩ := a
      have hspot : spot = none := by simpa [Addr.add] using World.cell?_spot (hq 0 (by omega)).1
      subst hspot
      refine ⟨b, off, rfl, ?_, World.block_lt_of_cell? W _ (hq 0 (by omega)).1⟩
      intro i hi
      have hi' : i < len := by simpa using hi
      have := hq i (by omega)
      rw [add_plain, add_plain] at this
      simp only [List.getElem_map, List.getElem_range]
      exact ⟨this.1, by have := this.2.1; rwa [← Nat.add_assoc] at this⟩
    · intro p hp
      obtain ⟨i, hi, rfl⟩ := List.mem_map.1 hp
      have := hq i (by have := List.mem_range.1 hi; omega)
      have h1 := bounds_i64 this.2.2.1
      have h2 := bounds_i64 this.2.2.2
      omega


theorem Kept.frame {W w' : World} (h : Kept W w') (may : MemPlace → Prop) : W.keptBut w' may := by
  refine ⟨h.os, h.output, fun i hi => ?_⟩
  rw [h.block i hi]
  split <;> simp_all
theorem Kept.sameAt {W w' : World} (h : Kept W w') {p : MemPlace} (hp : p.block < W.heap.size) : W.sameAt w' p := by
  cases p with
  | cell b o => exact World.cell?_of_block (w := W) (h.block b hp)
  | map b => exact h.block b hp
theorem Kept.trod {H : Type} {enc : TypeId × Value → H} {W W' : World} {v : Value} {d : DataW H} {ps : List MemPlace} (h : DataW.Trod enc Try.prog W 0 (fun _ => true) true 28 v d ps) (hb : Kept W W') (hlt : ∀ x ∈ ps, x.block < W.heap.size) :
    DataW.Trod enc Try.prog W' 0 (fun b => decide (b < W.heap.size)) true 28 v d ps :=
  WideElems.Trod_stays listLaid (by kernel_rfl) (of_decide_eq_true (by kernel_rfl)) h (fun x hx => hb.sameAt (hlt x hx)) (fun x hx => by simpa using hlt x hx)
end Go.Proofs.Ytgeoffpcmkofkaa
