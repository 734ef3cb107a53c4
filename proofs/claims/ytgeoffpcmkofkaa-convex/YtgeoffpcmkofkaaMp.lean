/- hull.Of, of no points. -/
import Derived.Test.YtgeoffpcmkofkaaMo
namespace Go.Proofs.Ytgeoffpcmkofkaa
open Go Go.Conc Go.RowKit Fl Go.Maps
set_option maxRecDepth 100000
attribute [local go_sem ↓] Go.wp_at_zero Go.wp_at_succ

/-- A list without points. -/
def NoPts (w : World) (lv : Value) : Prop := lv = .slice none 0 0 ∨ ∃ r0 cap c, lv = .slice (some ⟨r0, 0, none⟩) 0 cap ∧ w.heap[r0]? = some (.cells c 23 (0, 0)) ∧ (∀ x ∈ c.toList, ∃ n, x = .int .i64 n) ∧ GN ≤ r0
theorem NoPts.same {w w' : World} {lv : Value} (h : NoPts w lv) (k : Same w w') : NoPts w' lv := h.imp id fun ⟨r0, cap, c, h1, h3, h4⟩ => ⟨r0, cap, c, h1, by rw [k.heap]; exact h3, h4⟩
theorem NoPts.kept {w w' : World} {lv : Value} (h : NoPts w lv) (k : Kept w w') : NoPts w' lv := h.imp id fun ⟨r0, cap, c, h1, h3, h4⟩ => ⟨r0, cap, c, h1, by rw [k.block r0 (Array.getElem?_eq_some_iff.1 h3).1]; exact h3, h4⟩
theorem first_E {w : World} {lv : Value} (h : NoPts w lv) : Calls Try.prog 69 #[lv] w fun e w' => ∃ b, e = .returned (.map (some b)) ∧ Hid (New w w' ∧ w.heap.size ≤ b ∧ MapI w' b ([] : Pts).length (numN [] ([] : Pts).length)) := by
  rcases h with rfl | ⟨r0, cap, c, rfl, h3, _, _⟩
  · exact first_nil w
  · exact first_some r0 cap [] w (fun i hi => by simp at hi) (Array.getElem?_eq_some_iff.1 h3).1 (by simp) (by simp)
theorem dis_nil : IsDis [] [] := ⟨fun i j x y h => by simp at h, fun x => Iff.rfl, Nat.le_refl _⟩
theorem A.partsE {Post : Value → World → Prop} {w : World} {lv : Value} {x : Frame} {cs : List Frame} (hlv : NoPts w lv) (h : ∀ v w', Out71 w w' v [] → A Try.prog Post (x.finish v) cs w') : A Try.prog Post (Frame.enter Try.prog 71 #[lv] .normal) (x :: cs) w := by
  rcases hlv with rfl | ⟨r0, cap, c, rfl, h3, h4, h5⟩
  · exact A.partsN h
  · exact A.parts (off := 0) (n := 0) (outs := fun _ => []) (by omega) (by omega) h3 h4 h5 (fun i hi => by omega) (by simp [cat]) (by simp) h
theorem A.aroundE {Post : Value → World → Prop} {w1 w : World} {v : Value} {x : Frame} {cs : List Frame} (hO : Out71 w1 w v []) (hG : GN ≤ w1.heap.size)
    (h : ∀ v w', (∃ ad c, v = .slice ad 0 c) → Kept w w' → A Try.prog Post (x.finish v) cs w') : A Try.prog Post (Frame.enter Try.prog 70 #[v] .normal) (x :: cs) w := by
  rcases hO.row.2 with ⟨rfl, _⟩ | ⟨g, cap, cur, rfl, hb, hg, _⟩
  · refine A.aroundN Ytgeoffpcmkofkaa.aroundN (Nat.le_trans hG hO.kept.size) fun v w' hR hK => h v w' ?_ hK
    rcases hR with ⟨rfl, _⟩ | ⟨g, c, rfl, _⟩
    · exact ⟨none, 0, rfl⟩
    · exact ⟨_, c, rfl⟩
  · refine A.around (off := 0) (n := 0) (out := ringL []) (aroundC (l := []) (s := []) (fun i hi => by simp at hi) (by simp) (by simp) dis_nil) hg (hO.ints g rfl cur 23 (0, 0) hg) (by omega) fun v w' hR q1 q2 q3 q4 => h v w' ?_ ⟨q2, q3, q1, q4⟩
    rcases hR with ⟨rfl, _⟩ | ⟨g, c, rfl, _⟩
    · exact ⟨none, 0, rfl⟩
    · exact ⟨_, c, rfl⟩
set_option maxHeartbeats 1600000 in
theorem rest54E (lv : Value) (ad : Option Addr) (cap b : Nat) (w : World) (h1 h2 h3 h4 : Value) :
    c54.wp Try.prog (fun e a w' => (e = .normal ∨ e = .ret) ∧ ∃ v, a.tmps.getD 2 undef = v ∧ Hid (Kept w w' ∧ w'.ownsRow w.heap.size 3 1 v 0 []))
      { tmps := #[lv, undef, .slice none 0 0, .map (some b), .slice ad 0 cap, undef, undef, undef, h1, h2, h3, h4, .slice ad 0 cap, undef, undef, undef, undef, undef, undef, undef, undef, undef, undef, undef, undef, undef, undef, undef, undef, undef, undef], defers := [] } w := by
  simp only [c54, Try.f54]
  obtain ⟨i0, hi0, hz0, hz1, hz2⟩ := info_parts Try.info3
  obtain ⟨w1, k1, k2, k3⟩ := run_make_full (P := Try.prog) w w.heap.size 46 3 i0 _ 1 Try.underlying46 hi0 hz0 hz1 .i64 .i64 0 (by omega) (by unfold maxLen; omega) (Nat.le_refl _)
  have HN : Hid (Kept w w1 ∧ w1.ownsRow w.heap.size 3 1 (.slice (some ⟨w.heap.size, 0, none⟩) 0 0) 0 []) := ⟨⟨k3.os, k3.output, k3.size, fun r hr => k3.block r hr (by simp)⟩, by simpa [madeCells] using k2⟩
  have k1' : (Instr.makeSlice 46 (.int .i64 0) (.int .i64 0)).run Try.prog w = .ok (.slice (some ⟨w.heap.size, 0, none⟩) 0 0) w1 := k1
  clear k1 k2 k3 hi0 hz0 hz1 hz2
  go_wp2_with fail
  go_loop [18] (fun i => i = .int .i64 0) (fun _ => 0)
  case atStart => rfl
  case round =>
    subst hrel
    go_wp2_with fail
set_option maxHeartbeats 1000000 in
theorem A.hullOfE {Post : Value → World → Prop} {lv : Value} {w : World} {x : Frame} {cs : List Frame} (hlv : NoPts w lv) (hG : GN ≤ w.heap.size) (h : ∀ v w', OutN w w' v [] → A Try.prog Post (x.finish v) cs w') :
    A Try.prog Post (Frame.enter Try.prog 54 #[lv] .normal) (x :: cs) w := by
  rw [Conc.enter_at _ Try.func54 (c := Try.f54.body.getD .skip) rfl]
  walk_nrmf Try.f54
  refine .ctl (fun _ => stepG_seq) ?_
  refine .ctl (fun _ => stepG_region) ?_
  walk_nrm
  refine .mov (.slice none 0 0) rfl rfl (.inr rfl) rfl (by decide) ?_
  walk_nrm
  refine .ctl (fun _ => stepG_region_end) ?_
  refine .ctl (fun _ => stepG_seq) ?_
  refine .ctl (fun _ => stepG_region) ?_
  walk_nrm
  refine .mov lv rfl rfl (.inl rfl) rfl (by decide) ?_
  walk_nrm
  refine .ent (f := 69) (xs := #[lv]) rfl rfl (by decide) (fun w' => by go_simp) (fun w' => by simp [go_sem, callFunc, Try.func69, Try.f69]) ?_
  refine A.call bodP noEarly fs69 Try.func69 (c := Try.f69.body.getD .skip) rfl (Q := fun v w' => FnK w w' v []) (fun v w1 w2 k q => ⟨q.kept.same k, let ⟨b, h1, h2, h3⟩ := q.map; ⟨b, h1, h2, h3.heap (by rw [k.heap])⟩⟩) (fun w' hs' => (first_E (hlv.same hs')).mono ?_) fun mv1 w1 hq => ?_
  · rintro e w2 ⟨b, rfl, H⟩
    refine ⟨_, rfl, H.out.1.kept0 hs', b, rfl, ?_, H.out.2.2⟩
    have := H.out.2.1
    rwa [hs'.heap] at this
  obtain ⟨bm, rfl, hbm, hmap⟩ := hq.map
  rw [Frame.finish_at]
  walk_nrm
  refine .mov (.map (some bm)) rfl rfl (.inr rfl) rfl (by decide) ?_
  walk_nrm
  refine .ctl (fun _ => stepG_region_end) ?_
  refine .ctl (fun _ => stepG_seq) ?_
  refine .ctl (fun _ => stepG_region) ?_
  walk_nrm
  refine .mov lv rfl rfl (.inl rfl) rfl (by decide) ?_
  walk_nrm
  refine .ent (f := 71) (xs := #[lv]) rfl rfl (by decide) (fun w' => by go_simp) (fun w' => by simp [go_sem, callFunc, Try.func71, Try.f71]) ?_
  refine A.partsE (hlv.kept hq.kept) fun v1 w2 hO => ?_
  have hG2 : GN ≤ w2.heap.size := Nat.le_trans hG (Nat.le_trans hq.kept.size hO.kept.size)
  have hq1 := hq.kept.size
  rw [Frame.finish_at]
  walk_nrm
  refine .ent (f := 70) (xs := #[v1]) rfl rfl (by decide) (fun w' => by go_simp) (fun w' => by simp [go_sem, callFunc, Try.func70, Try.f70]) ?_
  refine A.aroundE hO (Nat.le_trans hG hq.kept.size) fun v2 w3 hR hK3 => ?_
  obtain ⟨ad, c3, rfl⟩ := hR
  rw [Frame.finish_at]
  walk_nrm
  refine .mov (.slice ad 0 c3) rfl rfl (.inr rfl) rfl (by decide) ?_
  walk_nrm
  refine .ctl (fun _ => stepG_region_end) ?_
  have hk3 : Kept w w3 := (hq.kept.trans hO.kept).trans hK3
  refine A.rest bodP noEarly (b := base 54) Try.func54 rfl (c := c54) codeP54 rfl (Q := fun a w' => ∃ v, a.tmps.getD 2 undef = v ∧ OutN w w' v []) (fun a w1 w2 k q => ?_) (fun w' hs' => ?_) fun a' w' todo hd hQ => ?_
  · obtain ⟨v, h1, h2⟩ := q
    exact ⟨v, h1, h2.kept.same k, owns_same h2.row k⟩
  · refine Go.wp_mono (rest54E _ ad c3 bm w' _ _ _ _) fun e a w2 hh => ?_
    obtain ⟨h1, v, h2, h3⟩ := hh
    refine ⟨h1, v, h2, (hk3.same hs').trans h3.out.1, ?_⟩
    exact own_base (N := w.heap.size) (by have := (hk3.same hs').size; exact this) h3.out.2
  · obtain ⟨v, h1, h2⟩ := hQ
    refine .ctl (fr1 := x.finish v) (cs1 := cs) (fun w3 => ?_) (h v w' h2)
    obtain ⟨tmps, dfs⟩ := a'
    simp only at hd h1
    subst hd
    refine stepG_leave rfl rfl Try.func54 ?_ ?_
    · subst h1
      simp [results, Try.f54]
    · simp [results, Try.f54]
end Go.Proofs.Ytgeoffpcmkofkaa
