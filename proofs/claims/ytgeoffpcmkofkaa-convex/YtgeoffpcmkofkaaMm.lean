/- The end of hull.Of: the corners' numbers. -/
import Derived.Test.YtgeoffpcmkofkaaPn
import Derived.Test.YtgeoffpcmkofkaaQi
import Derived.Test.YtgeoffpcmkofkaaMk
import Derived.Test.YtgeoffpcmkofkaaMl
namespace Go.Proofs.Ytgeoffpcmkofkaa
open Go Go.Conc Go.RowKit Fl Go.Maps
set_option maxRecDepth 100000
attribute [local go_sem ↓] Go.wp_at_zero Go.wp_at_succ

noncomputable def c54 : Code := match Try.f54.body with
  | some (.seq _ (.seq _ (.seq _ r))) => r
  | _ => .skip
/-- The numbers of some points. -/
def numsOf (m : Ns) (ws : Pts) : List Value := ws.map fun p => .int .i64 (atN m p)
/-- Where the loop over the corners stands. -/
structure NI (w w1 wr : World) (m : Ns) (ws : Pts) (i : Nat) (xs : List Value) : Prop where
  gr : w1.grownBy wr (some w.heap.size)
  own : wr.ownsRow w.heap.size 3 1 (.slice (some ⟨w.heap.size, 0, none⟩) ws.length ws.length) ws.length xs
  done : xs.take i = (numsOf m ws).take i
theorem PtsAt.heap {w w' : World} {g off : Nat} {l : Pts} (h : PtsAt w g off l) (e : w'.heap[g]? = w.heap[g]?) : PtsAt w' g off l := fun i hi => by
  have := h i hi
  simp only [World.cell?, e] at this ⊢
  exact this
theorem NI.box {w w1 wr : World} {m : Ns} {ws : Pts} {i : Nat} {xs : List Value} (h : NI w w1 wr m ws i xs) (o : Obj) : NI w w1 (wr.alloc o) m ws i xs := ⟨h.gr.trans ((New.alloc wr o).but _), h.own.alloc o, h.done⟩
theorem NI.put {w w1 wr : World} {m : Ns} {ws : Pts} {i : Nat} {xs : List Value} {p : Pt} (h : NI w w1 wr m ws i xs) (hi : ws[i]? = some p) : NI w w1 (wr.setCell ⟨w.heap.size, i, none⟩ (.int .i64 (atN m p))) m ws (i + 1) (xs.set i (.int .i64 (atN m p))) := by
  have hs := World.ownsRow.stored h.own i (.int .i64 (atN m p))
  refine ⟨h.gr.trans hs.2, hs.1, ?_⟩
  have hlt : i < ws.length := (List.getElem?_eq_some_iff.1 hi).1
  have hx : xs.length = ws.length := by have := h.own.1; omega
  have e : (numsOf m ws)[i]? = some (.int .i64 (atN m p)) := by simp [numsOf, hi]
  rw [List.take_add_one, List.take_add_one, e, List.take_set_of_le (Nat.le_refl _), h.done]
  simp [hx, hlt]

set_option maxHeartbeats 1600000 in
theorem rest54 (lv : Value) (g cap b n : Nat) (m : Ns) (ws : Pts) (w : World) (hp : PtsAt w g 0 ws) (hg : g < w.heap.size) (hm : MapI w b n m) (hl : ws.length ≤ 1000000) (hc : ∀ x ∈ ws, CdP x) (h1 h2 h3 h4 : Value) :
    c54.wp Try.prog (fun e a w' => (e = .normal ∨ e = .ret) ∧ ∃ v, a.tmps.getD 2 undef = v ∧ Hid (Kept w w' ∧ w'.ownsRow w.heap.size 3 1 v ws.length (numsOf m ws)))
      { tmps := #[lv, undef, .slice none 0 0, .map (some b), .slice (some ⟨g, 0, none⟩) ws.length cap, undef, undef, undef, h1, h2, h3, h4, .slice (some ⟨g, 0, none⟩) ws.length cap, undef, undef, undef, undef, undef, undef, undef, undef, undef, undef, undef, undef, undef, undef, undef, undef, undef, undef], defers := [] } w := by
  simp only [c54, Try.f54]
  have HP : Hid (PtsAt w g 0 ws ∧ g < w.heap.size ∧ MapI w b n m ∧ ∀ x ∈ ws, CdP x) := ⟨hp, hg, hm, hc⟩
  clear hp hg hm hc
  obtain ⟨i0, hi0, hz0, hz1, hz2⟩ := info_parts Try.info3
  obtain ⟨w1, k1, k2, k3⟩ := run_make_full (P := Try.prog) w w.heap.size 46 3 i0 _ 1 Try.underlying46 hi0 hz0 hz1 .i64 .i64 ws.length (by rw [hz2]; omega) (by unfold maxLen; omega) (Nat.le_refl _)
  have HN : Hid (NI w w1 w1 m ws 0 (madeCells (Value.int .i64 0).cells (ws.length * 1)).toList ∧ w.grownBy w1 none) := ⟨⟨World.grownBy.refl _ _, k2, rfl⟩, k3⟩
  clear k2 k3 hi0 hz0 hz1 hz2
  go_wp2_with fail
  go_loopw [18] (fun i wr => ∃ (k : Nat) (xs : List Value), i = .int .i64 (k : Int) ∧ k ≤ ws.length ∧ Hid (NI w w1 wr m ws k xs)) (fun i _ => ws.length - (intOf i).toNat)
  case atStart => exact ⟨0, _, rfl, Nat.zero_le _, HN.out.1⟩
  case round =>
    obtain ⟨k, xs, rfl, hk, H⟩ := hrel
    have hsz : w1.heap.size ≤ wr.heap.size := H.out.gr.size
    rcases Nat.lt_or_ge k ws.length with hk' | hk'
    · have hb : b < w.heap.size := HP.out.2.2.1.lt
      have hc := (HP.out.1.heap (w' := wr) (by rw [H.out.gr.block g (by have := HN.out.2.size; have := HP.out.2.1; omega) (by have := HP.out.2.1; simp; omega), HN.out.2.block g HP.out.2.1 (by simp)])) k hk'
      rw [Nat.zero_add] at hc
      obtain ⟨p, hp⟩ : ∃ p, p = ws[k] := ⟨_, rfl⟩
      have HC : Hid (CdP p ∧ ws[k]? = some p) := ⟨by rw [hp]; exact HP.out.2.2.2 _ (List.getElem_mem hk'), by rw [hp]; exact List.getElem?_eq_getElem hk'⟩
      rw [← hp] at hc
      obtain ⟨x0, x1⟩ := hc
      clear hp
      have i0 : (0 : Int) ≤ (k : Int) := by omega
      have i1 : (k : Int) < (ws.length : Int) := by omega
      have hw1 : IntKind.i64.wrap ((k : Int) + 1) = (k : Int) + 1 := by rw [IntKind.wrap_i64]; omega
      have HM : Hid (MapI (wr.alloc (.cells #[.int .i64 p.1, .int .i64 p.2] 23)) b n m) := ((HP.out.2.2.1.new HN.out.2).kept H.out.gr (by simp; omega)).new (New.alloc _ _)
      have HB : Hid (NI w w1 (wr.alloc (.cells #[.int .i64 p.1, .int .i64 p.2] 23)) m ws k xs) := H.out.box _
      obtain ⟨xk, hxk⟩ : ∃ xk, xs[k]? = some xk := ⟨_, List.getElem?_eq_getElem (show k < xs.length by have := H.out.own.1; omega)⟩
      have f1 := World.ownsRow.frozenAt HB.out.own k
      have f2 : (wr.alloc (.cells #[.int .i64 p.1, .int .i64 p.2] 23)).cell? ⟨w.heap.size, k, none⟩ = some xk := (World.ownsRow.cellAt HB.out.own k (by omega)).trans hxk
      have HF : Hid (NI w w1 ((wr.alloc (.cells #[.int .i64 p.1, .int .i64 p.2] 23)).setCell ⟨w.heap.size, k, none⟩ (.int .i64 (atN m p))) m ws (k + 1) (xs.set k (.int .i64 (atN m p)))) := HB.out.put HC.out.2
      have y0 : (wr.alloc (.cells #[.int .i64 p.1, .int .i64 p.2] 23)).cell? ⟨wr.heap.size, 0, none⟩ = some (.int .i64 p.1) := by go_simp
      have y1 : (wr.alloc (.cells #[.int .i64 p.1, .int .i64 p.2] 23)).cell? ⟨wr.heap.size, 1, none⟩ = some (.int .i64 p.2) := by go_simp
      clear hxk
      go_wp2_with (first
        | (at_lookup; refine wpList_lookI _ rfl _ _ rfl b n m rfl HM.out p rfl HC.out.1 ?_)
        | go_in)
      go_roundw
      case rel => exact ⟨k + 1, _, by go_num, hk', HF⟩
      case measure => simp [intOf]; omega
    · have e : k = ws.length := by omega
      subst e
      go_wp2_with fail
      refine ⟨⟨H.out.gr.os.trans HN.out.2.os, H.out.gr.output.trans HN.out.2.output, Nat.le_trans HN.out.2.size hsz, fun r hr => by rw [H.out.gr.block r (Nat.lt_of_lt_of_le hr HN.out.2.size) (by simp; omega), HN.out.2.block r hr (by simp)]⟩, ?_⟩
      have e : xs = numsOf m ws := by
        have h1 := H.out.done
        have h2 : xs.length = ws.length := by have := H.out.own.1; omega
        rw [List.take_of_length_le (by omega), List.take_of_length_le (by simp [numsOf])] at h1
        exact h1
      rw [← e]
      exact H.out.own
end Go.Proofs.Ytgeoffpcmkofkaa
