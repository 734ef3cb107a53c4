/- The walk of 'Of' of package inside. -/
import Derived.Test.YtgeoffpcmkofkaaYk
namespace Go.Proofs.Ytgeoffpcmkofkaa
open Go.RowKit Fl
set_option maxRecDepth 100000
attribute [local go_sem ↓] Go.wp_at_zero Go.wp_at_succ

def ptAt (l : Pts) (i : Nat) : Pt := l.getD i (0, 0)
/-- The edges of a polygon. -/
def edgeOn (l : Pts) (p : Pt) (i : Nat) : Bool := onB (ptAt l i) (ptAt l ((i + 1) % l.length)) p
def edgePass (l : Pts) (p : Pt) (i : Nat) : Bool := passB (ptAt l i) (ptAt l ((i + 1) % l.length)) p
def anyOn (l : Pts) (p : Pt) : Nat → Bool
  | 0 => false
  | k + 1 => anyOn l p k || edgeOn l p k
def oddK (l : Pts) (p : Pt) : Nat → Bool
  | 0 => false
  | k + 1 => bif edgePass l p k then !oddK l p k else oddK l p k
def withinN (l : Pts) (p : Pt) : Int := bif anyOn l p l.length then 0 else bif oddK l p l.length then 1 else -1
def parI (b : Bool) : Int := bif b then 1 else -1

theorem parI_neg (b : Bool) : wrap64 (-parI b) = parI (!b) := by
  cases b <;> (simp only [parI, cond_true, cond_false, Bool.not_true, Bool.not_false]; unfold wrap64; omega)

theorem anyOn_up {l : Pts} {p : Pt} {k : Nat} (h : edgeOn l p k = true) : ∀ n, k < n → anyOn l p n = true
  | n + 1, hn => by
    rcases Nat.lt_or_ge k n with h1 | h1
    · simp [anyOn, anyOn_up h n h1]
    · have : k = n := by omega
      subst this
      simp [anyOn, h]
theorem ptAt_eq {l : Pts} {i : Nat} (h : i < l.length) : ptAt l i = l[i] := by simp [ptAt, h]
theorem ptAt_cd {l : Pts} (h : okB l = true) {i : Nat} (hi : i < l.length) : CdP (ptAt l i) := by
  rw [ptAt_eq hi]; exact okB_cd h (List.getElem_mem hi)

set_option maxHeartbeats 1600000 in
theorem insideOf_some (g off cap : Nat) (l : Pts) (px py : Int) (w : World) (h : PtsAt w g off l) (hg : g < w.heap.size) (hn : 0 < l.length) (h40 : l.length ≤ 40) (hok : okB l = true) (hp : CdP (px, py)) :
    Calls Try.prog 51 #[.slice (some ⟨g, off, none⟩) l.length cap, .agg #[.int .i64 px, .int .i64 py]] w fun e w' => e = .returned (.int .i64 (withinN l (px, py))) ∧ Hid (New w w') := by
  have HP : Hid (PtsAt w g off l ∧ g < w.heap.size ∧ okB l = true ∧ CdP (px, py)) := ⟨h, hg, hok, hp⟩
  clear h hok hp
  go_enter Try.func51, Try.ntmps51
  go_wp2_with fail
  go_loopw [5, 11] (fun av iv wr => ∃ k : Nat, iv = .int .i64 k ∧ k ≤ l.length ∧ av = .int .i64 (parI (oddK l (px, py) k)) ∧ Hid (New w wr ∧ anyOn l (px, py) k = false ∧ wr.cell? ⟨w.heap.size, 0, none⟩ = some (.int .i64 px) ∧ wr.cell? ⟨w.heap.size, 1, none⟩ = some (.int .i64 py)))
    (fun _ iv _ => l.length - (intOf iv).toNat)
  case atStart => exact ⟨0, rfl, Nat.zero_le _, rfl, New.alloc _ _, rfl, by go_simp, by go_simp⟩
  case round =>
    obtain ⟨k, rfl, hle, rfl, H⟩ := hrel
    by_cases hk : k < l.length
    · obtain ⟨m, hm⟩ : ∃ m, m = (k + 1) % l.length := ⟨_, rfl⟩
      have hml : m < l.length := by rw [hm]; exact Nat.mod_lt _ hn
      obtain ⟨ux, hux⟩ : ∃ x, x = l[k].1 := ⟨_, rfl⟩
      obtain ⟨uy, huy⟩ : ∃ x, x = l[k].2 := ⟨_, rfl⟩
      obtain ⟨vx, hvx⟩ : ∃ x, x = l[m].1 := ⟨_, rfl⟩
      obtain ⟨vy, hvy⟩ : ∃ x, x = l[m].2 := ⟨_, rfl⟩
      have HU : Hid (ptAt l k = (ux, uy) ∧ ptAt l ((k + 1) % l.length) = (vx, vy)) := by
        rw [← hm, Hid, ptAt_eq hk, ptAt_eq hml, hux, huy, hvx, hvy]; exact ⟨rfl, rfl⟩
      have HC : Hid (CdP (ux, uy) ∧ CdP (vx, vy) ∧ CdP (px, py)) := by
        have e1 := ptAt_cd HP.out.2.2.1 hk
        have e2 := ptAt_cd HP.out.2.2.1 hml
        rw [HU.out.1] at e1
        rw [hm, HU.out.2] at e2
        exact ⟨e1, e2, HP.out.2.2.2⟩
      have HK := HP.out.1.kept HP.out.2.1 H.out.1
      have u0 := (HK k hk).1
      have u1 := (HK k hk).2
      have v0 := (HK m hml).1
      have v1 := (HK m hml).2
      rw [← hux] at u0
      rw [← huy] at u1
      rw [← hvx] at v0
      rw [← hvy] at v1
      have HR : Hid (g < wr.heap.size) := Nat.lt_of_lt_of_le HP.out.2.1 H.out.1.size
      have hr : ((k : Int) + 1).tmod (l.length : Int) = (m : Int) := by rw [hm, Int.tmod_eq_emod_of_nonneg (by omega)]; rfl
      have hw1 : IntKind.i64.wrap ((k : Int) + 1) = (k : Int) + 1 := by rw [IntKind.wrap_i64]; omega
      have hw2 : IntKind.i64.wrap (m : Int) = (m : Int) := by rw [IntKind.wrap_i64]; omega
      have hl0 : l ≠ [] := by rintro rfl; simp at hn
      have hl1 : l.length ≠ 0 := by omega
      have hm0 : (0 : Int) ≤ (m : Int) := by omega
      have hm1 : (m : Int) < (l.length : Int) := by omega
      have HM : Hid (m = (k + 1) % l.length) := hm
      clear hux huy hvx hvy HK hm
      go_wp2_with fail
      go_region_held3 (fun w' => w'.cell? ⟨wr.heap.size, 0, none⟩ = some (.int .i64 ux) ∧ w'.cell? ⟨wr.heap.size, 1, none⟩ = some (.int .i64 uy) ∧ w'.cell? ⟨g, off + m * 2, none⟩ = some (.int .i64 vx) ∧ w'.cell? ⟨g, off + m * 2 + 1, none⟩ = some (.int .i64 vy))
        (go_keep) (first | fail)
      have pb0 := behind2 H.out.2.2.1
      have pb1 := behind2 H.out.2.2.2
      clear u0 u1 v0 v1
      go_wp2_with fail
      refine (holds_any ux uy vx vy px py _ HC.out.1 HC.out.2.1 HC.out.2.2).mono ?_
      rintro e w2 ⟨rfl, H2⟩
      have HN2 : Hid (New w w2) := (((H.out.1.alloc' _).alloc' _).drewN 1).trans' H2.out
      have e0 : w2.cell? ⟨wr.heap.size + 1, 0, none⟩ = some (.int .i64 ux) := H2.out.kept (by go_simp)
      have e1 : w2.cell? ⟨wr.heap.size + 1, 1, none⟩ = some (.int .i64 uy) := H2.out.kept (by go_simp)
      have e2 : w2.cell? ⟨wr.heap.size + 1, 2, none⟩ = some (.int .i64 vx) := H2.out.kept (by go_simp)
      have e3 : w2.cell? ⟨wr.heap.size + 1, 3, none⟩ = some (.int .i64 vy) := H2.out.kept (by go_simp)
      have q0 : w2.cell? ⟨w.heap.size, 0, none⟩ = some (.int .i64 px) := H2.out.kept (pb0 _ _)
      have q1 : w2.cell? ⟨w.heap.size, 1, none⟩ = some (.int .i64 py) := H2.out.kept (pb1 _ _)
      clear pb0 pb1 H2
      cases ho : onB (ux, uy) (vx, vy) (px, py) with
      | true =>
        have HV : Hid (withinN l (px, py) = 0) := by
          have : edgeOn l (px, py) k = true := by rw [edgeOn, HU.out.1, HU.out.2]; exact ho
          rw [Hid, withinN, anyOn_up this _ hk]; rfl
        go_wp2_with fail
        go_ret
        exact ⟨by rw [HV.out]; rfl, HN2⟩
      | false =>
        have HO : Hid (anyOn l (px, py) (k + 1) = false) := by
          have : edgeOn l (px, py) k = false := by rw [edgeOn, HU.out.1, HU.out.2]; exact ho
          rw [Hid, anyOn, H.out.2.1, this]; rfl
        clear ho
        go_wp2_with fail
        refine (passes_any ux uy vx vy px py _ HC.out.1 HC.out.2.1 HC.out.2.2).mono ?_
        rintro e w3 ⟨rfl, H3⟩
        have HR3 : Hid (New w w3 ∧ anyOn l (px, py) (k + 1) = false ∧ w3.cell? ⟨w.heap.size, 0, none⟩ = some (.int .i64 px) ∧ w3.cell? ⟨w.heap.size, 1, none⟩ = some (.int .i64 py)) := ⟨HN2.out.trans' H3.out, HO.out, H3.out.kept q0, H3.out.kept q1⟩
        clear H3 e0 e1 e2 e3 q0 q1
        cases hs : passB (ux, uy) (vx, vy) (px, py) with
        | true =>
          have hp : edgePass l (px, py) k = true := by rw [edgePass, HU.out.1, HU.out.2]; exact hs
          have HE : Hid (oddK l (px, py) (k + 1) = !oddK l (px, py) k) := by rw [Hid, oddK, hp]; rfl
          clear hs hp
          generalize oddK l (px, py) k = b at *
          cases b
          · go_wp2_with fail
            go_roundw
            case rel => exact ⟨k + 1, by go_num, hk, by rw [HE.out, parI_neg], HR3⟩
            case measure => simp [intOf]; omega
          · go_wp2_with fail
            go_roundw
            case rel => exact ⟨k + 1, by go_num, hk, by rw [HE.out, parI_neg], HR3⟩
            case measure => simp [intOf]; omega
        | false =>
          have hp : edgePass l (px, py) k = false := by rw [edgePass, HU.out.1, HU.out.2]; exact hs
          have HE : Hid (oddK l (px, py) (k + 1) = oddK l (px, py) k) := by rw [Hid, oddK, hp]; rfl
          clear hs hp
          go_wp2_with fail
          go_roundw
          case rel => exact ⟨k + 1, by go_num, hk, by rw [HE.out], HR3⟩
          case measure => simp [intOf]; omega
    · have hkk : k = l.length := by omega
      subst hkk
      have HV : Hid (withinN l (px, py) = parI (oddK l (px, py) l.length)) := by rw [Hid, withinN, H.out.2.1]; rfl
      go_wp2_with fail
      go_ret
      exact ⟨by rw [HV.out]; rfl, H.out.1⟩

set_option maxHeartbeats 800000 in
theorem insideOf_none (ao : Option Addr) (cap : Nat) (px py : Int) (w : World) :
    Calls Try.prog 51 #[.slice ao 0 cap, .agg #[.int .i64 px, .int .i64 py]] w fun e w' => e = .returned (.int .i64 (withinN [] (px, py))) ∧ Hid (New w w') := by
  go_enter Try.func51, Try.ntmps51
  go_wp2_with fail
  go_loop [5, 11] (fun av iv => av = .int .i64 (-1) ∧ iv = .int .i64 0) (fun _ _ => 0)
  case atStart => exact ⟨rfl, rfl⟩
  case round =>
    obtain ⟨rfl, rfl⟩ := hrel
    go_wp2_with fail
    go_ret
    exact ⟨rfl, New.alloc _ _⟩

/-- A list of points, wherever it lies; one without points anywhere. -/
def PolyAt (w : World) (ao : Option Addr) (l : Pts) : Prop := 0 < l.length → ∃ g off, ao = some ⟨g, off, none⟩ ∧ PtsAt w g off l ∧ g < w.heap.size
theorem PolyAt.kept {w w' : World} {ao : Option Addr} {l : Pts} (h : PolyAt w ao l) (H : New w w') : PolyAt w' ao l := fun h0 => by
  obtain ⟨g, off, e, h1, h2⟩ := h h0
  exact ⟨g, off, e, h1.kept h2 H, Nat.lt_of_lt_of_le h2 H.size⟩

theorem insideOf_any (ao : Option Addr) (cap : Nat) (l : Pts) (px py : Int) (w : World) (h : PolyAt w ao l) (h40 : l.length ≤ 40) (hok : okB l = true) (hp : CdP (px, py)) :
    Calls Try.prog 51 #[.slice ao l.length cap, .agg #[.int .i64 px, .int .i64 py]] w fun e w' => e = .returned (.int .i64 (withinN l (px, py))) ∧ Hid (New w w') := by
  match l, h, h40, hok with
  | [], _, _, _ => exact insideOf_none ao cap px py w
  | q :: l, h, h40, hok =>
    obtain ⟨g, off, rfl, h1, h2⟩ := h (by simp)
    exact insideOf_some g off cap (q :: l) px py w h1 h2 (by simp) h40 hok hp

end Go.Proofs.Ytgeoffpcmkofkaa
