/- Hulls, from its start to its end. (Made by gen9.py.) -/
import Derived.Test.YtgeoffpcmkofkaaMu
namespace Go.Proofs.Ytgeoffpcmkofkaa
open Go Go.Conc Go.RowKit Fl Go.Maps Go.Lib Go.Joins
set_option maxRecDepth 100000

theorem A.leave9 {Post : Value → World → Prop} {a : Act} {todo : List Item} {w : World} (hd : a.defers = []) (h2 : a.tmps.getD 2 undef = .bool true) (h : ∀ w', Same w w' → Post (.bool true) w') : A Try.prog Post { (base 9).at a todo with mode := .returning } [] w := by
  refine A.fin (v := .bool true) fun w' hs => ⟨?_, h w' hs⟩
  have hf : Try.prog.funcs[9]? = some Try.f9 := Try.func9
  have hr : (results Try.f9 a.tmps).run Try.prog w' = .ok (.bool true) w' := by simp [results, Try.f9, ← h2]
  have he : (results Try.f9 a.tmps).events Try.prog w' #[] = #[] := by simp [results, Try.f9]
  simp [Conc.G, stepG, unwind, doReturn, Frame.at, show (base 9).kind = .normal from rfl, show (base 9).fn = 9 from rfl, hd, hf, hr, he, seen, GStep.after]
noncomputable def c9h : Code := match c9d with
  | .seq r _ => r
  | _ => .skip
theorem c9c_eq : c9c = .seq c9s c9d := rfl

set_option maxHeartbeats 2000000 in
theorem A.h9c {Post : Value → World → Prop} {W : World} {ao : Option Addr} {cap : Nat} {l : Pts} {wv inV v : Value} {b N : Nat} {w : World} (hS : S9 W ao cap l wv inV b N w) (hG : GN ≤ W.heap.size) (h : ∀ w', Kept W w' → Post (.bool true) w')
    (hv : w.ownsRow N 3 1 v (ansL l).length (List.replicate (ansL l).length (.int .i64 (-1)))) (t11 t20 t21 t22 t23 t24 t25 t26 t27 t28 t29 t30 t31 t32 t33 t34 t35 t36 t37 t38 t39 t40 t41 t42 t43 t44 t45 t46 t47 t48 t49 t50 : Value) :
    A Try.prog Post ((base 9).at { tmps := #[.slice ao l.length cap, undef, .bool false, .int .i64 (errL l), wv, .slice (some ⟨b, 0, none⟩) (l.length + 1) (l.length + 1), inV, v, .int .i64 (errL l), .bool true, .bool true, t11, undef, undef, undef, undef, undef, undef, undef, undef, t20, t21, t22, t23, t24, t25, t26, t27, t28, t29, t30, t31, t32, t33, t34, t35, t36, t37, t38, t39, t40, t41, t42, t43, t44, t45, t46, t47, t48, t49, t50, undef, undef, undef, undef, undef, undef, undef, undef, undef, undef, undef, undef, undef, undef, undef, undef, undef, undef, undef, undef, undef, undef, undef, undef, undef, undef, undef, undef, undef, undef, undef, undef, undef, undef, undef, undef, undef, undef, undef, undef, undef, undef, undef, undef, undef, undef, undef, undef, undef, undef, undef, undef, undef, undef, undef, undef, undef, undef, undef, undef, undef, undef, undef, undef, undef, undef, undef, undef, undef, undef, undef, undef, undef, undef, undef, undef, undef, undef, undef, undef, undef, undef, undef, undef, undef, undef, undef, undef, undef, undef, undef, undef, undef], defers := [] } [.code c9c]) [] w := by
  have h40 := ansL_len l
  rw [c9c_eq]
  refine .ctl (fun _ => stepG_seq) ?_
  refine A.seg bodP noEarly (fn := Try.f9) Try.func9 rfl (c := c9s) codeP9s (k := [.code c9d]) rfl (Q := QS9 ao cap l wv inV v b t11 t20 t21 t22 t23 t24 t25 t26 t27 t28 t29 t30 t31 t32 t33 t34 t35 t36 t37 t38 t39 t40 t41 t42 t43 t44 t45 t46 t47 t48 t49 t50 fun vg w' => KeptTo N w w' ∧ w'.ownsRow N 3 1 vg ((ansL l).length + 2) (List.replicate (ansL l).length (.int .i64 (-1)) ++ [.int .i64 (-2), .int .i64 (-3)])) ?_ (fun w' hs => ?_) ?_
  · rintro a w1 w2 hs ⟨vg, t51, t52, t53, rfl, h1, h2⟩
    exact ⟨vg, t51, t52, t53, rfl, h1.same hs, ownsRow_same h2 hs⟩
  · refine seg9 ao cap l wv inV v b N (ansL l).length _ w' (ownsRow_same hv hs) (by rw [hs.heap]; exact hS.n2) (by omega) _ (fun vg w2 h1 h2 => ⟨?_, h2⟩) t11 t20 t21 t22 t23 t24 t25 t26 t27 t28 t29 t30 t31 t32 t33 t34 t35 t36 t37 t38 t39 t40 t41 t42 t43 t44 t45 t46 t47 t48 t49 t50
    exact (KeptTo.refl N w).same hs |>.trans (KeptTo.grown h1 (by rw [hs.heap]; exact hS.n2) fun g hg => (ownsRow_blk hv g hg).1)
  rintro a w8 ⟨vg, t51, t52, t53, rfl, hK8, hO8⟩
  have hS8 := hS.to hK8
  simp only [c9d, c9c, c9b, Try.f9]
  refine .ctl (fun _ => stepG_seq) ?_
  refine .ctl (fun _ => stepG_region) ?_
  walk_nrm
  refine .mov (inV) rfl rfl (.inl rfl) rfl (by decide) ?_
  walk_nrm
  refine .ent (f := 32) (xs := #[inV]) rfl rfl (by decide) (fun w' => by go_simp) (fun w' => by simp [go_sem, callFunc, Try.func32, Try.f32]) ?_
  refine A.hullA hS8.row (Nat.le_trans hG hS8.kept.size) fun vk w9 hk9 hO9 => ?_
  rw [Frame.finish_at]
  walk_nrm
  refine .mov (.tuple #[vk, .int .i64 (errL l)]) rfl rfl (.inl rfl) rfl (by decide) ?_
  walk_nrm
  refine .val (vk) bodP.func rfl rfl (by decide) trivial (fun w' _ => by go_simp) ?_
  walk_nrm
  refine .val (.int .i64 (errL l)) bodP.func rfl rfl (by decide) trivial (fun w' _ => by go_simp) ?_
  walk_nrm
  refine .mov (vk) rfl rfl (.inr rfl) rfl (by decide) ?_
  walk_nrm
  refine .mov (.int .i64 (errL l)) rfl rfl (.inr rfl) rfl (by decide) ?_
  walk_nrm
  refine .ctl (fun _ => stepG_region_end) ?_
  refine A.rest bodP noEarly (fn := Try.f9) Try.func9 rfl (c := c9r) codeP9r rfl (Q := fun a w' => a.tmps.getD 2 undef = .bool true ∧ Hid (Kept W w')) (fun a w1 w2 hs q => ⟨q.1, q.2.out.same hs⟩) (fun w' hs => ?_) (fun a w' todo hd hq => A.leave9 hd hq.1 fun w2 hs => h w2 (hq.2.out.same hs))
  have hk' : Kept w8 w' := hk9.same hs
  exact rest9 W ao cap l wv inV v vg vk b N w8.heap.size w' (hS8.to (hk'.to hS8.n2)) hS8.n2 (ownsRow_to hO8 (hk'.to (Nat.le_refl _)) fun g hg => (ownsRow_blk hO8 g hg).2) (fun g hg => (ownsRow_blk hO8 g hg).2) hk'.size (hO9.same hs) _ _ _ _ _ _ _ _ _ _ _ _ _ _ _ _ _ _ _ _ _ _ _ _ _ _ _ _ _ _ _ _ _ _ _ _ _ _ _ _ 

set_option maxHeartbeats 4000000 in
theorem A.h9b {Post : Value → World → Prop} {W : World} {ao : Option Addr} {cap : Nat} {l : Pts} {wv : Value} {w : World} (hP : PolyAt W ao l) (hc : l.length ≤ cap) (hs : cap ≤ 10000000000000) (hn : ao = none → cap = 0) (hG : GN ≤ W.heap.size) (h : ∀ w', Kept W w' → Post (.bool true) w')
    (hK : Kept W w) (hw : OwnN w W.heap.size wv (ansL l)) (t20 t21 t22 t23 t24 t25 : Value) :
    A Try.prog Post ((base 9).at { tmps := #[.slice ao l.length cap, undef, .bool false, .int .i64 (errL l), wv, undef, undef, undef, undef, undef, undef, undef, undef, undef, undef, undef, undef, undef, undef, undef, t20, t21, t22, t23, t24, t25, undef, undef, undef, undef, undef, undef, undef, undef, undef, undef, undef, undef, undef, undef, undef, undef, undef, undef, undef, undef, undef, undef, undef, undef, undef, undef, undef, undef, undef, undef, undef, undef, undef, undef, undef, undef, undef, undef, undef, undef, undef, undef, undef, undef, undef, undef, undef, undef, undef, undef, undef, undef, undef, undef, undef, undef, undef, undef, undef, undef, undef, undef, undef, undef, undef, undef, undef, undef, undef, undef, undef, undef, undef, undef, undef, undef, undef, undef, undef, undef, undef, undef, undef, undef, undef, undef, undef, undef, undef, undef, undef, undef, undef, undef, undef, undef, undef, undef, undef, undef, undef, undef, undef, undef, undef, undef, undef, undef, undef, undef, undef, undef, undef, undef, undef, undef, undef, undef], defers := [] } [.code c9b]) [] w := by
  have h40 := ansL_len l
  simp only [c9b, Try.f9]
  refine .ctl (fun _ => stepG_seq) ?_
  refine .ctl (fun _ => stepG_region) ?_
  walk_nrm
  refine .mov (.slice ao l.length cap) rfl rfl (.inl rfl) rfl (by decide) ?_
  walk_nrm
  refine .ent (f := 26) (xs := #[.slice ao l.length cap]) rfl rfl (by decide) (fun w' => by go_simp) (fun w' => by simp [go_sem, callFunc, Try.func26, Try.f26]) ?_
  refine A.call bodP noEarly fs26 Try.func26 (c := Try.f26.body.getD .skip) rfl (Q := fun v w' => ∃ inV, v = .tuple #[.slice (some ⟨w.heap.size, 0, none⟩) (l.length + 1) (l.length + 1), inV] ∧ ((inV = .slice none 0 0 ∧ l = []) ∨ inV = .slice (some ⟨w.heap.size, 0, none⟩) l.length (l.length + 1)) ∧ Kept w w' ∧ w'.heap[w.heap.size]? = some (.cells (flatP (l ++ [(0, 0)])).toArray 23 (0, 0))) ?_ (fun w' hs' => (lent_poly ao cap l w' ((hP.keptB hK).heap hs'.heap) hs hc hn).mono ?_) fun tv w3 hq => ?_
  · rintro v w1 w2 k ⟨inV, h1, h2, h3, h4⟩
    exact ⟨inV, h1, h2, h3.same k, by rw [k.heap]; exact h4⟩
  · rintro e w2 ⟨inV, rfl, h2, H⟩
    have hr := H.out.row
    rw [hs'.heap] at h2 hr ⊢
    exact ⟨_, rfl, inV, rfl, h2, H.out.new.kept0 hs', hr⟩
  obtain ⟨inV, rfl, hin, hk3, hblk⟩ := hq
  obtain ⟨b, hb⟩ : ∃ b, b = w.heap.size := ⟨_, rfl⟩
  rw [← hb] at hin hblk ⊢
  have hblt : b < w3.heap.size := (Array.getElem?_eq_some_iff.1 hblk).1
  have hS3 : S9 W ao cap l wv inV b w3.heap.size w3 := ⟨hK.trans hk3, (hK.trans hk3).size, Nat.le_refl _, hblt, by rw [hb]; exact Nat.le_trans hG hK.size, hw.to (hk3.to (Nat.le_refl _)) fun g hg => (hw.lt g hg).2, fun g hg => Nat.lt_of_lt_of_le (hw.lt g hg).2 hk3.size, hblk, hin, hP, hc, hs⟩
  rw [Frame.finish_at]
  walk_nrm
  refine .mov (.tuple #[.slice (some ⟨b, 0, none⟩) (l.length + 1) (l.length + 1), inV]) rfl rfl (.inl rfl) rfl (by decide) ?_
  walk_nrm
  refine .val (.slice (some ⟨b, 0, none⟩) (l.length + 1) (l.length + 1)) bodP.func rfl rfl (by decide) trivial (fun w' _ => by go_simp) ?_
  walk_nrm
  refine .val (inV) bodP.func rfl rfl (by decide) trivial (fun w' _ => by go_simp) ?_
  walk_nrm
  refine .mov (.slice (some ⟨b, 0, none⟩) (l.length + 1) (l.length + 1)) rfl rfl (.inr rfl) rfl (by decide) ?_
  walk_nrm
  refine .mov (inV) rfl rfl (.inr rfl) rfl (by decide) ?_
  walk_nrm
  refine .ctl (fun _ => stepG_region_end) ?_
  refine .ctl (fun _ => stepG_seq) ?_
  refine .ctl (fun _ => stepG_region) ?_
  walk_nrm
  refine .mov (inV) rfl rfl (.inl rfl) rfl (by decide) ?_
  walk_nrm
  refine .ent (f := 32) (xs := #[inV]) rfl rfl (by decide) (fun w' => by go_simp) (fun w' => by simp [go_sem, callFunc, Try.func32, Try.f32]) ?_
  refine A.hullA hS3.row (Nat.le_trans hG hS3.kept.size) fun v w4 hk4 hO4 => ?_
  have hS4 := hS3.to (hk4.to (Nat.le_refl _))
  rw [Frame.finish_at]
  walk_nrm
  refine .mov (.tuple #[v, .int .i64 (errL l)]) rfl rfl (.inl rfl) rfl (by decide) ?_
  walk_nrm
  refine .val (v) bodP.func rfl rfl (by decide) trivial (fun w' _ => by go_simp) ?_
  walk_nrm
  refine .val (.int .i64 (errL l)) bodP.func rfl rfl (by decide) trivial (fun w' _ => by go_simp) ?_
  walk_nrm
  refine .mov (v) rfl rfl (.inr rfl) rfl (by decide) ?_
  walk_nrm
  refine .mov (.int .i64 (errL l)) rfl rfl (.inr rfl) rfl (by decide) ?_
  walk_nrm
  refine .ctl (fun _ => stepG_region_end) ?_
  refine .ctl (fun _ => stepG_seq) ?_
  refine .ctl (fun _ => stepG_region) ?_
  walk_nrm
  refine .mov (.slice (some ⟨b, 0, none⟩) (l.length + 1) (l.length + 1)) rfl rfl (.inl rfl) rfl (by decide) ?_
  walk_nrm
  refine .mov (.slice ao l.length cap) rfl rfl (.inl rfl) rfl (by decide) ?_
  walk_nrm
  refine .ent (f := 28) (xs := #[.slice (some ⟨b, 0, none⟩) (l.length + 1) (l.length + 1), .slice ao l.length cap]) rfl rfl (by decide) (fun w' => by go_simp) (fun w' => by simp [go_sem, callFunc, Try.func28, Try.f28]) ?_
  refine A.call bodP noEarly fs28 Try.func28 (c := Try.f28.body.getD .skip) rfl (Q := fun v w' => v = .bool true ∧ Kept w4 w') (fun v w1 w2 k q => ⟨q.1, q.2.same k⟩) (fun w' hs' => (back_any b ao cap l w' (hS4.all.heap (by rw [hs'.heap])) (hS4.args.heap hs'.heap) hs hc).mono ?_) fun tv w5 hq => ?_
  · rintro e w2 ⟨rfl, H⟩
    exact ⟨_, rfl, rfl, H.out.kept0 hs'⟩
  obtain ⟨rfl, hk5⟩ := hq
  have hS5 := hS4.to (hk5.to hS4.n2)
  have hO5 : OwnN w5 w3.heap.size v (ansL l) := hO4.to (hk5.to (Nat.le_refl _)) fun g hg => (hO4.lt g hg).2
  rw [Frame.finish_at]
  walk_nrm
  refine .mov (.bool true) rfl rfl (.inr rfl) rfl (by decide) ?_
  walk_nrm
  refine .ctl (fun _ => stepG_region_end) ?_
  refine .ctl (fun _ => stepG_seq) ?_
  refine .ctl (fun _ => stepG_region) ?_
  walk_nrm
  refine .mov (v) rfl rfl (.inl rfl) rfl (by decide) ?_
  walk_nrm
  refine .mov (wv) rfl rfl (.inl rfl) rfl (by decide) ?_
  walk_nrm
  refine .ent (f := 33) (xs := #[v, wv]) rfl rfl (by decide) (fun w' => by go_simp) (fun w' => by simp [go_sem, callFunc, Try.func33, Try.f33]) ?_
  refine A.call bodP noEarly fs33 Try.func33 (c := Try.f33.body.getD .skip) rfl (Q := fun v w' => v = .bool true ∧ Kept w5 w') (fun v w1 w2 k q => ⟨q.1, q.2.same k⟩) (fun w' hs' => ?_) fun tv w6 hq => ?_
  · obtain ⟨a1, c1, e1, h1⟩ := (hO5.same hs').ints
    obtain ⟨a2, c2, e2, h2⟩ := (hS5.want.same hs').ints
    rw [e1, e2]
    refine (sameInts_eq a1 a2 c1 c2 _ w' h1 h2 (by rw [List.length_map]; omega)).mono ?_
    rintro e w2 ⟨rfl, H⟩
    exact ⟨_, rfl, rfl, H.out.kept0 hs'⟩
  obtain ⟨rfl, hk6⟩ := hq
  have hS6 := hS5.to (hk6.to hS5.n2)
  have hO6 : OwnN w6 w3.heap.size v (ansL l) := hO5.to (hk6.to (Nat.le_refl _)) fun g hg => (hO5.lt g hg).2
  rw [Frame.finish_at]
  walk_nrm
  refine .mov (.bool true) rfl rfl (.inr rfl) rfl (by decide) ?_
  walk_nrm
  refine .ctl (fun _ => stepG_region_end) ?_
  refine .ctl (fun _ => stepG_seq) ?_
  refine A.seg bodP noEarly (fn := Try.f9) Try.func9 rfl (c := c9l) codeP9l (k := [.code c9c]) rfl (Q := QL9 ao cap l wv inV v b _ _ _ _ _ _ _ _ _ _ _ _ _ _ _ _ _ _ _ _ _ _  fun w' => KeptTo w3.heap.size w6 w' ∧ w'.ownsRow w3.heap.size 3 1 v (ansL l).length (List.replicate (ansL l).length (.int .i64 (-1)))) ?_ (fun w' hs' => loop9 ao cap l wv inV v b w3.heap.size (ansL l).length _ w' (hO6.same hs') (by omega) _ (fun w2 h1 h2 => ⟨(KeptTo.refl _ w6).same hs' |>.trans (KeptTo.grown h1 (by rw [hs'.heap]; exact hS6.n2) fun g hg => (hO6.lt g hg).1), h2⟩) _ _ _ _ _ _ _ _ _ _ _ _ _ _ _ _ _ _ _ _ _ _ ) ?_
  · rintro a w1 w2 hs' ⟨t11, t42, t43, t44, t45, t46, t47, t48, t49, t50, rfl, h1, h2⟩
    exact ⟨t11, t42, t43, t44, t45, t46, t47, t48, t49, t50, rfl, h1.same hs', ownsRow_same h2 hs'⟩
  rintro a w7 ⟨t11, t42, t43, t44, t45, t46, t47, t48, t49, t50, rfl, hK7, hO7⟩
  exact A.h9c (hS6.to hK7) hG h hO7 _ _ _ _ _ _ _ _ _ _ _ _ _ _ _ _ _ _ _ _ _ _ _ _ _ _ _ _ _ _ _ _ 

set_option maxHeartbeats 4000000 in
/-- Hulls answers true, and leaves what there was as it was. -/
theorem A.hulls {Post : Value → World → Prop} {W : World} {ao : Option Addr} {cap : Nat} {l : Pts} (hP : PolyAt W ao l) (hc : l.length ≤ cap) (hs : cap ≤ 10000000000000) (hn : ao = none → cap = 0) (hG : GN ≤ W.heap.size) (h : ∀ w', Kept W w' → Post (.bool true) w') :
    A Try.prog Post (Frame.enter Try.prog 9 #[.slice ao l.length cap] .normal) [] W := by
  rw [Conc.enter_at _ Try.func9 (c := Try.f9.body.getD .skip) rfl]
  walk_nrmf Try.f9
  refine .ctl (fun _ => stepG_seq) ?_
  refine .ctl (fun _ => stepG_region) ?_
  walk_nrm
  refine .mov (.bool false) rfl rfl (.inr rfl) rfl (by decide) ?_
  walk_nrm
  refine .ctl (fun _ => stepG_region_end) ?_
  refine .ctl (fun _ => stepG_seq) ?_
  refine .ctl (fun _ => stepG_region) ?_
  walk_nrm
  refine .mov (.slice ao l.length cap) rfl rfl (.inl rfl) rfl (by decide) ?_
  walk_nrm
  refine .ent (f := 30) (xs := #[.slice ao l.length cap]) rfl rfl (by decide) (fun w' => by go_simp) (fun w' => by simp [go_sem, callFunc, Try.func30, Try.f30]) ?_
  refine A.call bodP noEarly fs30 Try.func30 (c := Try.f30.body.getD .skip) rfl (Q := fun v w' => v = .int .i64 (errL l) ∧ Kept W w') (fun v w1 w2 k q => ⟨q.1, q.2.same k⟩) (fun w' hs' => (refused_any ao cap l w' (hP.heap hs'.heap) hc (by omega)).mono ?_) fun tv w1 hq => ?_
  · rintro e w2 ⟨rfl, H⟩
    exact ⟨_, rfl, rfl, H.out.kept0 hs'⟩
  obtain ⟨rfl, hk1⟩ := hq
  rw [Frame.finish_at]
  walk_nrm
  refine .mov (.int .i64 (errL l)) rfl rfl (.inr rfl) rfl (by decide) ?_
  walk_nrm
  refine .ctl (fun _ => stepG_region_end) ?_
  refine .ctl (fun _ => stepG_seq) ?_
  refine .ctl (fun _ => stepG_region) ?_
  walk_nrm
  refine .mov (.slice none 0 0) rfl rfl (.inr rfl) rfl (by decide) ?_
  walk_nrm
  refine .ctl (fun _ => stepG_region_end) ?_
  refine .ctl (fun _ => stepG_seq) ?_
  refine .ctl (fun _ => stepG_seq) ?_
  refine .ctl (fun _ => stepG_region) ?_
  walk_nrm
  refine .mov (.int .i64 (errL l)) rfl rfl (.inl rfl) rfl (by decide) ?_
  walk_nrm
  refine .val (.bool (decide (errL l = 0))) bodP.func rfl rfl (by decide) trivial (fun w' _ => ?_) ?_
  · simp [go_sem]
    by_cases he : errL l = 0 <;> simp [he]
  walk_nrm
  refine .ctl (fun _ => stepG_region_end) ?_
  by_cases he : errL l = 0
  · refine .ctl (fun _ => stepG_cond (t := true) (by simp [Act.eval, he])) ?_
    simp only [if_true]
    refine .ctl (fun _ => stepG_region) ?_
    walk_nrm
    refine .mov (.slice ao l.length cap) rfl rfl (.inl rfl) rfl (by decide) ?_
    walk_nrm
    refine .ent (f := 31) (xs := #[.slice ao l.length cap]) rfl rfl (by decide) (fun w' => by go_simp) (fun w' => by simp [go_sem, callFunc, Try.func31, Try.f31]) ?_
    refine A.call bodP noEarly fs31 Try.func31 (c := Try.f31.body.getD .skip) rfl (Q := fun v w' => Kept w1 w' ∧ OwnN w' w1.heap.size v (ansL l)) (fun v w1 w2 k q => ⟨q.1.same k, q.2.same k⟩) (fun w' hs' => (refHull_poly ao cap l w' ((hP.keptB hk1).heap hs'.heap) (by have := (errL_zero he).1; omega) (errL_zero he).2).mono ?_) fun wv w2 hq => ?_
    · rintro e w2 ⟨v, rfl, H⟩
      refine ⟨v, rfl, H.out.1.kept0 hs', ?_⟩
      have := H.out.2
      rw [hs'.heap] at this
      unfold ansL
      rw [if_pos he]
      exact this
    obtain ⟨hk2, hw2⟩ := hq
    rw [Frame.finish_at]
    walk_nrm
    refine .mov (wv) rfl rfl (.inr rfl) rfl (by decide) ?_
    walk_nrm
    refine .ctl (fun _ => stepG_region_end) ?_
    exact A.h9b hP hc hs hn hG h (hk1.trans hk2) (hw2.le hk1.size) _ _ _ _ _ _ 
  · refine .ctl (fun _ => stepG_cond (t := false) (by simp [Act.eval, he])) ?_
    simp only [Bool.false_eq_true, if_false]
    refine .ctl (fun _ => stepG_skip) ?_
    exact A.h9b hP hc hs hn hG h hk1 (by unfold ansL; rw [if_neg he]; exact OwnN.nil _ _) _ _ _ _ _ _ 

end Go.Proofs.Ytgeoffpcmkofkaa
