/- plumb.Hull, beside goroutines that only leave. -/
import Derived.Test.YtgeoffpcmkofkaaMp
import Derived.Test.YtgeoffpcmkofkaaYm
import Derived.Test.YtgeoffpcmkofkaaHj
namespace Go.Proofs.Ytgeoffpcmkofkaa
open Go Go.Conc Go.RowKit Fl Go.Maps
set_option maxRecDepth 100000

theorem fs50 : FSof fsI 50 := by decide
theorem PolyAt.heap {w w' : World} {ao : Option Addr} {l : Pts} (h : PolyAt w ao l) (e : w'.heap = w.heap) : PolyAt w' ao l := fun h0 => by
  obtain ⟨g, off, h1, h2, h3⟩ := h h0
  exact ⟨g, off, h1, h2.heap (by rw [e]), by rw [e]; exact h3⟩
set_option maxHeartbeats 1000000 in
theorem A.hull32 {Post : Value → World → Prop} {ao : Option Addr} {cap : Nat} {l : Pts} {w : World} {x : Frame} {cs : List Frame} {nums : List Value} (hpoly : PolyAt w ao l)
    (hgood : errL l = 0 → ∀ (w1 : World) (y : Frame), Kept w w1 → (∀ v w', OutN w1 w' v nums → A Try.prog Post (y.finish v) (x :: cs) w') → A Try.prog Post (Frame.enter Try.prog 54 #[.slice ao l.length cap] .normal) (y :: x :: cs) w1)
    (hbad : errL l ≠ 0 → ∀ w', Kept w w' → A Try.prog Post (x.finish (.tuple #[.slice none 0 0, .int .i64 (errL l)])) cs w')
    (h : errL l = 0 → ∀ v w', OutN w w' v nums → A Try.prog Post (x.finish (.tuple #[v, .int .i64 0])) cs w') :
    A Try.prog Post (Frame.enter Try.prog 32 #[.slice ao l.length cap] .normal) (x :: cs) w := by
  rw [Conc.enter_at _ Try.func32 (c := Try.f32.body.getD .skip) rfl]
  walk_nrmf Try.f32
  refine .ctl (fun _ => stepG_seq) ?_
  refine .ctl (fun _ => stepG_region) ?_
  walk_nrm
  refine .mov (.slice none 0 0) rfl rfl (.inr rfl) rfl (by decide) ?_
  walk_nrm
  refine .mov (.int .i64 0) rfl rfl (.inr rfl) rfl (by decide) ?_
  walk_nrm
  refine .ctl (fun _ => stepG_region_end) ?_
  refine .ctl (fun _ => stepG_seq) ?_
  refine .ctl (fun _ => stepG_seq) ?_
  refine .ctl (fun _ => stepG_region) ?_
  walk_nrm
  refine .mov (.slice ao l.length cap) rfl rfl (.inl rfl) rfl (by decide) ?_
  walk_nrm
  refine .ent (f := 50) (xs := #[.slice ao l.length cap]) rfl rfl (by decide) (fun w' => by go_simp) (fun w' => by simp [go_sem, callFunc, Try.func50, Try.f50]) ?_
  refine A.call bodP noEarly fs50 Try.func50 (c := Try.f50.body.getD .skip) rfl (Q := fun v w' => v = .int .i64 (errL l) ∧ Kept w w') (fun v w1 w2 k q => ⟨q.1, q.2.same k⟩) (fun w' hs' => (checkList_len ao cap l w' (hpoly.heap hs'.heap)).mono ?_) fun ev w1 hq => ?_
  · rintro e w2 ⟨rfl, H⟩
    exact ⟨_, rfl, rfl, H.out.kept0 hs'⟩
  obtain ⟨rfl, hK⟩ := hq
  rw [Frame.finish_at]
  walk_nrm
  refine .mov (.int .i64 (errL l)) rfl rfl (.inr rfl) rfl (by decide) ?_
  walk_nrm
  refine .ctl (fun _ => stepG_region_end) ?_
  refine .ctl (fun _ => stepG_seq) ?_
  refine .ctl (fun _ => stepG_region) ?_
  walk_nrm
  refine .mov (.int .i64 (errL l)) rfl rfl (.inl rfl) rfl (by decide) ?_
  walk_nrm
  refine .val (.bool (decide (errL l ≠ 0))) bodP.func rfl rfl (by decide) trivial (fun w' _ => ?_) ?_
  · simp [go_sem]
    by_cases he : errL l = 0 <;> simp [he]
  walk_nrm
  refine .ctl (fun _ => stepG_region_end) ?_
  by_cases he : errL l = 0
  · refine .ctl (fun _ => stepG_cond (t := false) (by simp [Act.eval, he])) ?_
    simp only [Bool.false_eq_true, if_false]
    refine .ctl (fun _ => stepG_skip) ?_
    refine .ctl (fun _ => stepG_seq) ?_
    refine .ctl (fun _ => stepG_region) ?_
    walk_nrm
    refine .mov (.slice ao l.length cap) rfl rfl (.inl rfl) rfl (by decide) ?_
    walk_nrm
    refine .ent (f := 54) (xs := #[.slice ao l.length cap]) rfl rfl (by decide) (fun w' => by go_simp) (fun w' => by simp [go_sem, callFunc, Try.func54, Try.f54]) ?_
    refine hgood he w1 _ hK fun v w2 hO => ?_
    rw [Frame.finish_at]
    walk_nrm
    refine .mov v rfl rfl (.inr rfl) rfl (by decide) ?_
    walk_nrm
    refine .mov (.int .i64 0) rfl rfl (.inr rfl) rfl (by decide) ?_
    walk_nrm
    refine .ctl (fun _ => stepG_region_end) ?_
    refine .ctl (fun _ => stepG_ret') ?_
    refine .ctl (fr1 := x.finish (.tuple #[v, .int .i64 0])) (cs1 := cs) (fun w3 => ?_) (h he v w2 ⟨hK.trans hO.kept, own_base hK.size hO.row⟩)
    refine stepG_leave rfl rfl Try.func32 ?_ ?_
    · simp [results, Try.f32]
    · simp [results, Try.f32]
  · refine .ctl (fun _ => stepG_cond (t := true) (by simp [Act.eval, he])) ?_
    simp only [if_true]
    refine .ctl (fun _ => stepG_seq) ?_
    refine .ctl (fun _ => stepG_region) ?_
    walk_nrm
    refine .mov (.int .i64 (errL l)) rfl rfl (.inl rfl) rfl (by decide) ?_
    walk_nrm
    refine .mov (.slice none 0 0) rfl rfl (.inr rfl) rfl (by decide) ?_
    walk_nrm
    refine .mov (.int .i64 (errL l)) rfl rfl (.inr rfl) rfl (by decide) ?_
    walk_nrm
    refine .ctl (fun _ => stepG_region_end) ?_
    refine .ctl (fun _ => stepG_ret') ?_
    refine .ctl (fr1 := x.finish (.tuple #[.slice none 0 0, .int .i64 (errL l)])) (cs1 := cs) (fun w3 => ?_) (hbad he w1 hK)
    refine stepG_leave rfl rfl Try.func32 ?_ ?_
    · simp [results, Try.f32]
    · simp [results, Try.f32]
theorem errL_zero {l : Pts} (h : errL l = 0) : l.length ≤ 40 ∧ ∀ x ∈ l, CdP x := by
  unfold errL at h
  split at h
  · cases h
  · rcases okE_vals l with ⟨_, h2⟩ | ⟨h1, _⟩
    · exact ⟨by omega, fun x hx => okB_cd h2 hx⟩
    · rw [h1] at h; cases h
theorem ring_ne {s : Pts} (h : s ≠ []) : ringL s ≠ [] := by
  unfold ringL
  split
  · exact h
  · intro e
    have h1 := way_len (s := s) (by omega)
    have h2 := (List.append_eq_nil_iff.1 e).1
    have h3 := congrArg List.length h2
    simp at h3
    omega
/-- A list of points, as it is handed in. -/
def RowL (w : World) (lv : Value) (l : Pts) : Prop := (lv = .slice none 0 0 ∧ l = []) ∨ ∃ r0 cap c, lv = .slice (some ⟨r0, 0, none⟩) l.length cap ∧ l.length ≤ cap ∧ w.heap[r0]? = some (.cells c 23 (0, 0)) ∧ (∀ x ∈ c.toList, ∃ n, x = .int .i64 n) ∧ GN ≤ r0 ∧ PtsIn c 0 l
theorem RowL.kept {w w' : World} {lv : Value} {l : Pts} (h : RowL w lv l) (k : Kept w w') : RowL w' lv l := h.imp id fun ⟨r0, cap, c, h1, h2, h5, h6⟩ => ⟨r0, cap, c, h1, h2, by rw [k.block r0 (Array.getElem?_eq_some_iff.1 h5).1]; exact h5, h6⟩
/-- The numbers of the corners. -/
def hullN (l : Pts) : List Value := if l = [] then [] else numsOf (numN l l.length) (ringL (hullS l))
theorem A.hull {Post : Value → World → Prop} {lv : Value} {l : Pts} {w : World} {x : Frame} {cs : List Frame} (hlv : RowL w lv l) (hG : GN ≤ w.heap.size)
    (hbad : errL l ≠ 0 → ∀ w', Kept w w' → A Try.prog Post (x.finish (.tuple #[.slice none 0 0, .int .i64 (errL l)])) cs w')
    (h : errL l = 0 → ∀ v w', OutN w w' v (hullN l) → A Try.prog Post (x.finish (.tuple #[v, .int .i64 0])) cs w') :
    A Try.prog Post (Frame.enter Try.prog 32 #[lv] .normal) (x :: cs) w := by
  rcases id hlv with ⟨rfl, rfl⟩ | ⟨r0, cap, c, rfl, h2, h5, h6, h7, h8⟩
  · exact A.hull32 (ao := none) (l := []) (cap := 0) (nums := []) (fun h0 => by simp at h0) (fun _ w1 y hK k => A.hullOfE (.inl rfl) (Nat.le_trans hG hK.size) k) hbad (fun he v w' hO => h he v w' (by simpa [hullN] using hO))
  · have hlt := (Array.getElem?_eq_some_iff.1 h5).1
    refine A.hull32 (nums := hullN l) (fun h0 => ⟨r0, 0, rfl, h8.at h5, hlt⟩) (fun he w1 y hK k => ?_) hbad h
    obtain ⟨h40, hcd⟩ := errL_zero he
    have h5' : w1.heap[r0]? = some (.cells c 23 (0, 0)) := by rw [hK.block r0 hlt]; exact h5
    by_cases hn : l = []
    · subst hn
      refine A.hullOfE (.inr ⟨r0, cap, c, rfl, h5', h6, h7⟩) (Nat.le_trans hG hK.size) fun v w' hO => k v w' (by simpa [hullN] using hO)
    · refine A.hullOf (ds := partS l) (s := hullS l) (by omega) h2 h5' h6 h7 h8 hcd (part_is hcd) (hull_is hcd) (ring_ne (hull_ne hcd hn)) fun v w' hO => k v w' ?_
      rw [hullN, if_neg hn]
      exact hO
end Go.Proofs.Ytgeoffpcmkofkaa
