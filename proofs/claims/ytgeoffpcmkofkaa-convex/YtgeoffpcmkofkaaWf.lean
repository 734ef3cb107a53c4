/- The walk of 'Times'. -/
import Derived.Test.YtgeoffpcmkofkaaWe
namespace Go.Proofs.Ytgeoffpcmkofkaa
open Go.RowKit Fl
set_option maxRecDepth 100000

theorem mul_grow1 {e f : Ws} {K i j : Nat} {S : Ws} {s l : Nat × Int} {w : World} {g cap : Nat} (hp : MulPre e f K) (hi : i < e.length) (hj : j < f.length) (h : MulInv e f K i e[i].2 j S) (hr : Rd e[i].2 f[j].2 s l)
    (hc : cap = 2 * e.length * f.length) (hl : Lst w g cap S) :
    Calls Try.prog 96 #[.slice (some ⟨g, 0, none⟩) S.length cap, .float .f64 l.1] w fun e' w' =>
      ∃ out : Ws, e' = .returned (.slice (some ⟨g, 0, none⟩) out.length cap) ∧ Hid (Lst w' g cap out ∧ total (vals out) = l.2 + total (vals S) ∧ out.length ≤ S.length + 1 ∧ mass (vals out) ≤ (l.2.natAbs : Int) + mass (vals S) + S.length * 2 ^ K ∧ w.grownBy w' (some g)) := by
  have hpl := place_lt hi hj
  have hlen := h.len
  have hc2 : cap = 2 * (e.length * f.length) := by rw [hc]; grind
  refine (grow_at g cap S l K w hl (by omega) hr.wl hr.rep hp.place (mul_round (S1 := []) hp hi hj h hr (by simp) (by
    have h1 := mass_nonneg (vals S)
    have h2 : 0 ≤ (S.length : Int) * 2 ^ K := Int.mul_nonneg (by omega) (by have := p2_pos K; omega)
    simp only [vals, List.map_nil, mass] at h1 ⊢
    omega)).1).mono ?_
  rintro e' w' ⟨out, rfl, h1, h2, h3, h4, h5⟩
  exact ⟨out, rfl, h1, h2, h3, h4, h5⟩

theorem mul_grow2 {e f : Ws} {K i j : Nat} {S S1 : Ws} {s l : Nat × Int} {w : World} {g cap : Nat} (hp : MulPre e f K) (hi : i < e.length) (hj : j < f.length) (h : MulInv e f K i e[i].2 j S) (hr : Rd e[i].2 f[j].2 s l)
    (hc : cap = 2 * e.length * f.length) (hl : Lst w g cap S1) (ht1 : total (vals S1) = l.2 + total (vals S)) (hl1 : S1.length ≤ S.length + 1) (hm1 : mass (vals S1) ≤ (l.2.natAbs : Int) + mass (vals S) + S.length * 2 ^ K) :
    Calls Try.prog 96 #[.slice (some ⟨g, 0, none⟩) S1.length cap, .float .f64 s.1] w fun e' w' =>
      ∃ out : Ws, e' = .returned (.slice (some ⟨g, 0, none⟩) out.length cap) ∧ Hid (Lst w' g cap out ∧ MulInv e f K i e[i].2 (j + 1) out ∧ w.grownBy w' (some g)) := by
  have hpl := place_lt hi hj
  have hlen := h.len
  have hc2 : cap = 2 * (e.length * f.length) := by rw [hc]; grind
  have hrd := mul_round hp hi hj h hr hl1 hm1
  refine (grow_at g cap S1 s K w hl (by omega) hr.ws hr.rnd.rep hp.place hrd.2.1).mono ?_
  rintro e' w' ⟨out, rfl, h1, h2, h3, h4, h5⟩
  exact ⟨out, rfl, h1, hrd.2.2 out h3 ht1 h2 h4, h5⟩

set_option maxHeartbeats 1600000 in
theorem times_any (g1 c1 g2 c2 : Nat) (e f : Ws) (K : Nat) (w : World) (h1 : Lst w g1 c1 e) (h2 : Lst w g2 c2 f) (hp : MulPre e f K) :
    Calls Try.prog 76 #[.slice (some ⟨g1, 0, none⟩) e.length c1, .slice (some ⟨g2, 0, none⟩) f.length c2] w fun e' w' =>
      ∃ (g3 cap : Nat) (out : Ws), e' = .returned (.slice (some ⟨g3, 0, none⟩) out.length cap) ∧ Hid (Lst w' g3 cap out ∧ w.heap.size ≤ g3 ∧ New w w' ∧ MulInv e f K e.length 0 0 out) := by
  obtain ⟨i0, hi, hz0, hz1, hz2⟩ := info_parts Try.info81
  have hl1 := h1.le
  have hl2 := h2.le
  have hs1 := h1.small
  have hs2 := h2.small
  have hfew := hp.few
  obtain ⟨cap, hcap⟩ : ∃ cap : Nat, cap = 2 * e.length * f.length := ⟨_, rfl⟩
  have hcapI : (2 * (e.length : Int) * f.length) = cap := by rw [hcap]; simp
  have hcap1 : cap ≤ 2048 := by have : 2 * e.length * f.length = 2 * (e.length * f.length) := by grind
                                omega
  have HC : Hid (cap = 2 * e.length * f.length) := hcap
  clear hcap hfew
  go_enter Try.func76, Try.ntmps76
  go_wp2_with (at_make; refine wpList_make_own _ rfl _ _ 87 rfl w.heap.size 81 i0 (.float .f64 0) 1 Try.underlying87 hi hz0 hz1 _ _ _ cap rfl rfl ?b1 ?b2 ?b3 (Nat.le_refl _) ?_)
  case b1 => rfl
  case b2 => rw [hz2]; omega
  case b3 => unfold maxLen; omega
  intro w0 hown0 hgrow0
  have HL : Hid (Lst w0 w.heap.size cap [] ∧ New w w0) := ⟨new_lst (by omega) hown0, hgrow0⟩
  clear hown0 hgrow0 hi hz0 hz1 hz2 hcapI
  go_wp2_with fail
  go_loopw [5, 21] (fun v i wr => ∃ (k : Nat) (S : Ws), i = .int .i64 k ∧ v = .slice (some ⟨w.heap.size, 0, none⟩) S.length cap ∧ k ≤ e.length ∧ Hid (Lst wr w.heap.size cap S ∧ New w wr ∧ MulInv e f K k 0 0 S))
    (fun _ i _ => e.length - (intOf i).toNat)
  case atStart => exact ⟨0, [], rfl, rfl, Nat.zero_le _, HL.out.1, HL.out.2, MulInv.start e f K 0⟩
  case round =>
    obtain ⟨k, S, rfl, rfl, hle, H⟩ := hrel
    by_cases hk : k < e.length
    · have hcell := (h1.kept H.out.2.1 (by simp)).cell hk
      go_wp2_with fail
      go_loopw [5, 27] (fun v i wr => ∃ (j : Nat) (S : Ws), i = .int .i64 j ∧ v = .slice (some ⟨w.heap.size, 0, none⟩) S.length cap ∧ j ≤ f.length ∧ Hid (Lst wr w.heap.size cap S ∧ New w wr ∧ MulInv e f K k e[k].2 j S))
        (fun _ i _ => f.length - (intOf i).toNat)
      case atStart => exact ⟨0, S, rfl, rfl, Nat.zero_le _, H.out.1, H.out.2.1, H.out.2.2.any _⟩
      case round =>
        obtain ⟨j, S', rfl, rfl, hle', H'⟩ := hrel
        by_cases hj : j < f.length
        · have hcell' := (h2.kept H'.out.2.1 (by simp)).cell hj
          go_wp2_with fail
          refine (mul_split hp hk hj _).mono ?_
          rintro e' w1 ⟨s, l, rfl, rfl, HR⟩
          go_wp2_with fail
          refine (mul_grow1 hp hk hj H'.out.2.2 HR.out HC.out H'.out.1).mono ?_
          rintro e' w2 ⟨S1, rfl, H1⟩
          go_wp2_with fail
          refine (mul_grow2 hp hk hj H'.out.2.2 HR.out HC.out H1.out.1 H1.out.2.1 H1.out.2.2.1 H1.out.2.2.2.1).mono ?_
          rintro e' w3 ⟨S2, rfl, H2⟩
          go_wp2_with fail
          go_roundw
          case rel => exact ⟨j + 1, S2, by go_num, rfl, hj, H2.out.1, (H'.out.2.1.trans H1.out.2.2.2.2 (by rintro g ⟨⟩; exact Nat.le_refl _)).trans H2.out.2.2 (by rintro g ⟨⟩; exact Nat.le_refl _), H2.out.2.1⟩
          case measure => simp [intOf]; omega
        · have hj2 : j = f.length := by omega
          subst hj2
          go_wp2_with fail
          go_roundw
          case rel => exact ⟨k + 1, S', by go_num, rfl, hk, H'.out.1, H'.out.2.1, H'.out.2.2.outer hk 0⟩
          case measure => simp [intOf]; omega
    · have hk2 : k = e.length := by omega
      subst hk2
      go_wp2_with fail
      go_ret
      exact ⟨w.heap.size, cap, S, rfl, H.out.1, Nat.le_refl _, H.out.2.1, H.out.2.2⟩

end Go.Proofs.Ytgeoffpcmkofkaa
