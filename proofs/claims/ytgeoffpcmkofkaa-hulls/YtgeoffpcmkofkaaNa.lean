/- plumbref's 'First'. -/
import Derived.Test.YtgeoffpcmkofkaaQd
import Derived.Test.YtgeoffpcmkofkaaYg
namespace Go.Proofs.Ytgeoffpcmkofkaa
open Go.RowKit Fl
set_option maxRecDepth 100000
attribute [local go_sem ↓] Go.wp_at_zero Go.wp_at_succ

/-- None ahead of it is the same. -/
def firstB (l : Pts) (i : Nat) : Bool := decide (∀ k, k < i → l[k]? ≠ l[i]?)
set_option maxHeartbeats 1600000 in
theorem refFirst_any (g off cap : Nat) (l : Pts) (i : Nat) (w : World) (hp : PtsAt w g off l) (hg : g < w.heap.size) (hl : l.length ≤ 1000000) (hi : i < l.length) :
    Calls Try.prog 68 #[.slice (some ⟨g, off, none⟩) l.length cap, .int .i64 (i : Int)] w fun e w' => e = .returned (.bool (firstB l i)) ∧ Hid (New w w') := by
  have HP : Hid (PtsAt w g off l ∧ g < w.heap.size) := ⟨hp, hg⟩
  clear hp hg
  obtain ⟨q, hq⟩ : ∃ q, q = l[i] := ⟨_, rfl⟩
  have HI : Hid (l[i]? = some q) := by rw [Hid, hq]; exact List.getElem?_eq_getElem hi
  have HQ : Hid (∀ V, New w V → V.cell? ⟨g, off + i * 2, none⟩ = some (.int .i64 q.1) ∧ V.cell? ⟨g, off + i * 2 + 1, none⟩ = some (.int .i64 q.2)) := fun V hV => by
    have := HP.out.1.kept HP.out.2 hV i hi
    rw [← hq] at this
    exact this
  have b0 : (0 : Int) ≤ (i : Int) := by omega
  have b1 : (i : Int) < (l.length : Int) := by omega
  clear hq
  go_enter Try.func68, Try.ntmps68
  go_wp2_with fail
  go_loopw [5] (fun v wr => ∃ k : Nat, v = .int .i64 (k : Int) ∧ k ≤ i ∧ Hid (New w wr ∧ ∀ k', k' < k → l[k']? ≠ l[i]?)) (fun v _ => i - (intOf v).toNat)
  case atStart => exact ⟨0, rfl, Nat.zero_le _, New.refl _, fun k' h => by omega⟩
  case round =>
    obtain ⟨k, rfl, hk, H⟩ := hrel
    rcases Nat.lt_or_ge k i with hk' | hk'
    · obtain ⟨p, hpe⟩ : ∃ p, p = l[k] := ⟨_, rfl⟩
      have HK : Hid (l[k]? = some p) := by rw [Hid, hpe]; exact List.getElem?_eq_getElem (by omega)
      have HQ' : Hid (∀ V, New wr V → V.cell? ⟨g, off + k * 2, none⟩ = some (.int .i64 p.1) ∧ V.cell? ⟨g, off + k * 2 + 1, none⟩ = some (.int .i64 p.2) ∧ V.cell? ⟨g, off + i * 2, none⟩ = some (.int .i64 q.1) ∧ V.cell? ⟨g, off + i * 2 + 1, none⟩ = some (.int .i64 q.2)) := fun V hV => by
        have h1 := HP.out.1.kept HP.out.2 (H.out.1.trans' hV) k (by omega)
        rw [← hpe] at h1
        exact ⟨h1.1, h1.2, HQ.out V (H.out.1.trans' hV)⟩
      clear hpe
      have c0 : (0 : Int) ≤ (k : Int) := by omega
      have c1 : (k : Int) < (l.length : Int) := by omega
      have c2 : (k : Int) < (i : Int) := by omega
      have hw1 : IntKind.i64.wrap ((k : Int) + 1) = (k : Int) + 1 := by rw [IntKind.wrap_i64]; omega
      have HW : Hid (New wr wr.drew) := (New.refl _).dr
      go_wp2_with fail
      go_region_held3 (fun V => V.cell? ⟨g, off + k * 2, none⟩ = some (.int .i64 p.1) ∧ V.cell? ⟨g, off + k * 2 + 1, none⟩ = some (.int .i64 p.2) ∧ V.cell? ⟨g, off + i * 2, none⟩ = some (.int .i64 q.1) ∧ V.cell? ⟨g, off + i * 2 + 1, none⟩ = some (.int .i64 q.2))
        (first | exact HQ'.out _ HW.out)
        (first | (go_at_call 49; refine (same_any p.1 p.2 q.1 q.2 _).mono ?_; rintro e w3 ⟨rfl, H3⟩; replace HW : Hid (New wr w3) := HW.out.trans' H3.out; clear H3))
      cases hs : sameB (p.1, p.2) (q.1, q.2) with
      | true =>
        have HF : Hid (firstB l i = false) := decide_eq_false fun h => h k hk' (by rw [HK.out, HI.out]; congr 1; exact of_decide_eq_true hs)
        go_wp2_with fail
        go_ret
        exact ⟨by rw [HF.out]; rfl, H.out.1.trans' HW.out⟩
      | false =>
        have HS : Hid (p ≠ q) := of_decide_eq_false hs
        go_wp2_with fail
        go_roundw
        case rel =>
          refine ⟨k + 1, by go_num, hk', H.out.1.trans' HW.out, fun k' hlt => ?_⟩
          rcases Nat.lt_or_ge k' k with h | h
          · exact H.out.2 k' h
          · have : k' = k := by omega
            subst this
            rw [HK.out, HI.out]
            intro e
            injection e with e
            exact HS.out e
        case measure => simp [intOf]; omega
    · have e : k = i := by omega
      subst e
      have HF : Hid (firstB l k = true) := decide_eq_true H.out.2
      go_wp2_with fail
      go_ret
      exact ⟨by rw [HF.out]; rfl, H.out.1⟩
end Go.Proofs.Ytgeoffpcmkofkaa
