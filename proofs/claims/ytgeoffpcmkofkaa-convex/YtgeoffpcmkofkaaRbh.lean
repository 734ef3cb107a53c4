/- Xe: texts laid into one. -/
import Derived.Test.YtgeoffpcmkofkaaRai
import Derived.Test.YtgeoffpcmkofkaaRaf
import Derived.Deep.RegionHeld3
import Derived.Deep.AppendLies
import Derived.Deep.DrawnRows
/- The walk of plumbkeep's 'fits'. -/
namespace Go.Proofs.Ytgeoffpcmkofkaa
open Go.RowKit Fl
set_option maxRecDepth 100000
attribute [local go_sem ↓] Go.wp_at_zero Go.wp_at_succ

/-- The points that were gathered. -/
structure Got (w wr : World) (v : Value) (k : Nat) (out : Pts) : Prop where
  new : New w wr
  ok : okB out = true
  len : out.length = k
  own : wr.ownsRow w.heap.size 23 2 v k (flatP out)


theorem Got.next {w wr w1 w2 : World} {v : Value} {k gg cap : Nat} {out : Pts} {r1 r2 : Int} (h : Got w wr v k out) (c1 : Cd r1) (c2 : Cd r2) (H1 : New wr.drew w1) (b : Obj)
    (hown : w2.ownsRow w.heap.size 23 2 (.slice (some ⟨gg, 0, none⟩) (k + 1) cap) (k + 1) (flatP out ++ [.int .i64 r1, .int .i64 r2])) (hgrow : (w1.alloc b).grownBy w2 v.ownBlock) :
    Got w w2 (.slice (some ⟨gg, 0, none⟩) (k + 1) cap) (k + 1) (out ++ [(r1, r2)]) := by
  have hn : New w (w1.alloc b) := (h.new.drew1.trans' H1).alloc' b
  refine ⟨hn.trans hgrow fun g e => ?_, ?_, by simp [h.len], by rw [flatP_append]; exact hown⟩
  · rcases Nat.lt_or_ge g w.heap.size with h1 | h1
    · exact absurd e.symm (own_ne h.own h1)
    · exact h1
  · have := h.ok
    unfold okB at this ⊢
    rw [List.all_append, this]
    simp [cdB_iff.2 c1, cdB_iff.2 c2]

set_option maxRecDepth 100000 in
set_option maxHeartbeats 1600000 in
theorem fits_some (g off cap : Nat) (l : Pts) (w : World) (h : PtsAt w g off l) (hg : g < w.heap.size) (_hc : l.length ≤ cap) (_hs : cap ≤ 100000000000000) (hin : In64 l) :
    Calls Try.prog 17 #[.slice (some ⟨g, off, none⟩) l.length cap] w fun e w' => ∃ (v : Value) (out : Pts), e = .returned v ∧ Hid (Got w w' v (min l.length 40) out) := by
  obtain ⟨i0, hi0, hz0, hz1, hz2⟩ := info_parts Try.info23
  go_enter Try.func17, Try.ntmps17
  go_wp2_with fail
  go_loopw [3, 4] (fun v i wr => ∃ (k : Nat) (out : Pts), i = .int .i64 k ∧ k ≤ l.length ∧ k ≤ 40 ∧ Hid (Got w wr v k out))
    (fun _ i _ => l.length - (intOf i).toNat)
  case atStart => exact ⟨0, [], rfl, Nat.zero_le _, Nat.zero_le _, ⟨New.refl _, rfl, rfl, World.ownsRow_nil _ _ _ _⟩⟩
  case round =>
    obtain ⟨k, out, rfl, hle, hle40, H⟩ := hrel
    by_cases hk : k < l.length
    · by_cases hk40 : k < 40
      · have hc1 := ((h.kept hg H.out.new) k hk).1
        have hc2 := ((h.kept hg H.out.new) k hk).2
        obtain ⟨x, hx⟩ : ∃ x, x = l[k].1 := ⟨_, rfl⟩
        obtain ⟨y, hy⟩ : ∃ y, y = l[k].2 := ⟨_, rfl⟩
        have HX := hin _ (List.getElem_mem hk)
        rw [← hx, ← hy] at HX
        obtain ⟨⟨hx1, hx2⟩, hy1, hy2⟩ := HX
        rw [← hx] at hc1
        rw [← hy] at hc2
        clear hx hy
        have hk0' : (0 : Int) ≤ (k : Int) := Int.natCast_nonneg _
        have hk1' : (k : Int) < (l.length : Int) := by omega
        have hgr : g < wr.heap.size := Nat.lt_of_lt_of_le hg H.out.new.size
        go_wp2_with fail
        have F1 : Hid (0 ≤ k) := Nat.zero_le _
        go_region_held3 (fun w' => w'.cell? ⟨g, off + k * 2, none⟩ = some (.int .i64 x) ∧ w'.cell? ⟨g, off + k * 2 + 1, none⟩ = some (.int .i64 y))
          (first
            | go_keep
            | exact ⟨(H1.out.rule _ _ (by simpa using hgr)).trans (by simpa using hc1), (H1.out.rule _ _ (by simpa using hgr)).trans (by simpa using hc2)⟩
            | (go_split_ands
               refine ⟨?_, ?_⟩
               · (rw [hgrow.cell_far _ (by have q1 := H1.out.size; simp at q1 ⊢; omega) (own_ne H.out.own hg)]; assumption)
               · (rw [hgrow.cell_far _ (by have q1 := H1.out.size; simp at q1 ⊢; omega) (own_ne H.out.own hg)]; assumption)))
          (first
            | (go_at_call 35; clear F1; refine (fit_any x _ hx1 hx2).mono ?_; rintro e wf1 ⟨r1, rfl, HC1, rfl⟩)
            | (go_at_call 35; refine (fit_any y _ hy1 hy2).mono ?_; rintro e wf2 ⟨r2, rfl, HC2, rfl⟩)
            | (go_at_call 34; refine (at_any r1 r2 _).mono ?_; rintro e w1 ⟨rfl, H1⟩)
            | ((refine step_append_lies _ (by rfl) _ _ _ (by rfl) w.heap.size 23 i0 _ 2 16 Try.underlying28 hi0 hz0 hz1 hz2 rfl (by omega) u3 k (flatP out) (by rfl) ((H.out.own.drew.kept H1.out (by cases hv : u3.ownBlock <;> simp)).alloc _)
                    ⟨w1.heap.size, 0, none⟩ 1 1 [.int .i64 r1, .int .i64 r2] (by rfl) (by rfl) (World.news_of_block (cs := #[.int .i64 r1, .int .i64 r2]) (t := 23) (fr := (0, 0)) (heap_alloc_new w1 _)) (by simp [Value.oneCell'])
                    (by omega) (by unfold maxLen; omega) (by omega) (by have q1 := H1.out.size; have q2 := H.out.new.size; simp at q1 ⊢; omega) (w1.heap.size + 1) (by simp) ?_; intro gg cap' w2 hown1 hgrow hat hlt)))
        have R : Hid (Got w w2 (.slice (some ⟨gg, 0, none⟩) (k + 1) cap') (k + 1) (out ++ [(r1, r2)])) := H.out.next HC1.out HC2.out H1.out _ hown1 hgrow
        clear hown1 hgrow hat hlt
        go_wp2_with fail
        go_roundw
        case rel => exact ⟨k + 1, out ++ [(r1, r2)], by go_num, hk, hk40, R⟩
        case measure => simp [intOf]; omega
      · have hk2 : k = 40 := by omega
        have hm : min l.length 40 = k := by omega
        go_wp2_with fail
        go_ret
        exact ⟨u3, out, rfl, by rw [hm]; exact H⟩
    · have hm : min l.length 40 = k := by omega
      go_wp2_with fail
      go_ret
      exact ⟨u3, out, rfl, by rw [hm]; exact H⟩

end Go.Proofs.Ytgeoffpcmkofkaa
