/- 'copyWithRoom', 'Plus', 'Minus', 'Sign' of expansions. -/
import Derived.Test.YtgeoffpcmkofkaaWc
namespace Go.Proofs.Ytgeoffpcmkofkaa
open Go.RowKit Fl
set_option maxRecDepth 100000

theorem fw_oneCell (ws : Ws) : ∀ u ∈ ws.map fw, u.oneCell' = true := by
  intro u hu
  obtain ⟨_, _, rfl⟩ := List.mem_map.1 hu
  rfl

theorem Lst.cells {w : World} {g cap : Nat} {ws : Ws} (h : Lst w g cap ws) : ∀ j u, (ws.map fw)[j]? = some u → w.cell? ((⟨g, 0, none⟩ : Addr).add j) = some u := by
  intro j u hu
  obtain ⟨hj, e⟩ := List.getElem?_eq_some_iff.1 hu
  have hj' : j < ws.length := by simpa using hj
  rw [Addr.add_lit, Nat.zero_add, h.cell hj', ← e]
  simp [fw]

set_option maxHeartbeats 400000 in
theorem copy_any (g cap : Nat) (ws : Ws) (m : Nat) (w : World) (h : Lst w g cap ws) (hs : ws.length + m ≤ 1048576) :
    Calls Try.prog 97 #[.slice (some ⟨g, 0, none⟩) ws.length cap, .int .i64 m] w fun e w' =>
      e = .returned (.slice (some ⟨w.heap.size, 0, none⟩) ws.length (ws.length + m)) ∧ Hid (Lst w' w.heap.size (ws.length + m) ws ∧ New w w') := by
  obtain ⟨i0, hi, hz0, hz1, hz2⟩ := info_parts Try.info81
  go_enter Try.func97, Try.ntmps97
  go_wp2_with (at_make; refine wpList_make_own _ rfl _ _ 87 rfl w.heap.size 81 i0 (.float .f64 0) 1 Try.underlying87 hi hz0 hz1 _ _ _ (ws.length + m) rfl rfl (by omega) ?b2 ?b3 (Nat.le_refl _) ?_)
  case b2 => rw [hz2]; omega
  case b3 => unfold maxLen; omega
  intro w0 hown0 hgrow0
  have HL : Hid (Lst w0 g cap ws) := h.kept hgrow0 (by simp)
  have HG : Hid (w.grownBy w0 none) := hgrow0
  clear hgrow0
  go_wp2_with (at_builtin; refine wpList_append_fits _ rfl _ _ 87 rfl w.heap.size 81 i0 1 Try.underlying87 hi hz1 w.heap.size 0 (ws.length + m) [] rfl hown0 ⟨g, 0, none⟩ ws.length cap (ws.map fw) rfl (by simp) HL.out.cells (fw_oneCell ws) (by omega) ?_; intro w1 hown1 hgrow1)
  go_ret
  refine ⟨by simp, ?_, ?_⟩
  · exact Lst.of_owns (ws := ws) (by simpa using hown1) rfl h.words h.ex (by omega)
  · exact New.trans HG.out hgrow1 (by rintro g' ⟨⟩; exact Nat.le_refl _)

/-- Sums and differences, at part j. -/
structure AddInv (σ : Int) (e f : Ws) (K : Nat) (j : Nat) (S : Ws) : Prop where
  len : S.length ≤ e.length + j
  le : j ≤ f.length
  tot : total (vals S) = total (vals e) + σ * total (vals (f.take j))
  bound : mass (vals S) + mass (vals (f.drop j)) ≤ mass (vals e) + mass (vals f) + j * (e.length + f.length) * 2 ^ K

theorem AddInv.start (σ : Int) (e f : Ws) (K : Nat) : AddInv σ e f K 0 e :=
  ⟨by omega, by omega, by simp [vals, total], by simp⟩

theorem total_take {f : Ws} {j : Nat} (hj : j < f.length) : total (vals (f.take (j + 1))) = total (vals (f.take j)) + f[j].2 := by
  rw [List.take_succ_eq_append_getElem hj, vals_append, total_append]
  simp [vals, total]

theorem mass_drop {f : Ws} {j : Nat} (hj : j < f.length) : mass (vals (f.drop j)) = (f[j].2.natAbs : Int) + mass (vals (f.drop (j + 1))) := by
  rw [drop_cons hj]; simp only [vals, List.map_cons, mass]

theorem mass_take {f : Ws} {j : Nat} (hj : j < f.length) : mass (vals (f.take (j + 1))) = mass (vals (f.take j)) + (f[j].2.natAbs : Int) := by
  rw [List.take_succ_eq_append_getElem hj, vals_append, mass_append]
  simp [vals, mass]

theorem AddInv.next {σ : Int} {e f : Ws} {K j : Nat} {S out : Ws} (h : AddInv σ e f K j S) (hj : j < f.length) {b : Int} (hb : b = σ * f[j].2) (hab : b.natAbs = f[j].2.natAbs)
    (h1 : total (vals out) = b + total (vals S)) (h2 : out.length ≤ S.length + 1) (h3 : mass (vals out) ≤ (b.natAbs : Int) + mass (vals S) + S.length * 2 ^ K) : AddInv σ e f K (j + 1) out := by
  have l1 := h.len
  refine ⟨by omega, hj, ?_, ?_⟩
  · rw [h1, h.tot, total_take hj, hb]; grind
  · have hb' := h.bound
    rw [mass_drop hj] at hb'
    have hp := p2_pos K
    have h4 : (S.length : Int) * 2 ^ K ≤ (e.length + f.length) * 2 ^ K := Int.mul_le_mul_of_nonneg_right (by omega) (by omega)
    have h5 : ((j + 1 : Nat) : Int) * (e.length + f.length) * 2 ^ K = j * (e.length + f.length) * 2 ^ K + (e.length + f.length) * 2 ^ K := by push_cast; grind
    rw [h5]
    omega

/-- The call of 'grow' fits. -/
theorem AddInv.fits {σ : Int} {e f : Ws} {K j : Nat} {S : Ws} (h : AddInv σ e f K j S) (hj : j < f.length) (hT : mass (vals e) + mass (vals f) + f.length * (e.length + f.length) * 2 ^ K ≤ 2 ^ 52 * 2 ^ K) :
    (f[j].2.natAbs : Int) + mass (vals S) + S.length * 2 ^ K ≤ 2 ^ 52 * 2 ^ K := by
  have l1 := h.len
  have hb' := h.bound
  rw [mass_drop hj] at hb'
  have hm := mass_nonneg (vals (f.drop (j + 1)))
  have hp := p2_pos K
  have h4 : (S.length : Int) * 2 ^ K ≤ (e.length + f.length) * 2 ^ K := Int.mul_le_mul_of_nonneg_right (by omega) (by omega)
  have h5 : ((j : Int) * (e.length + f.length) + (e.length + f.length)) * 2 ^ K ≤ f.length * (e.length + f.length) * 2 ^ K := by
    refine Int.mul_le_mul_of_nonneg_right ?_ (by omega)
    have : ((j : Int) + 1) * (e.length + f.length) ≤ f.length * (e.length + f.length) := Int.mul_le_mul_of_nonneg_right (by omega) (by omega)
    grind
  have h6 : ((j : Int) * (e.length + f.length) + (e.length + f.length)) * 2 ^ K = j * (e.length + f.length) * 2 ^ K + (e.length + f.length) * 2 ^ K := by grind
  omega

/-- One call of 'grow' in the loop of 'Plus' (s = 1) and 'Minus' (s = -1). -/
theorem add_step {σ : Int} {e f : Ws} {K j : Nat} {S : Ws} {w : World} {g3 : Nat} (h : AddInv σ e f K j S) (hj : j < f.length) (b : Nat × Int) (hF : F b.1 b.2 0) (hR : Rep b.2) (hb : b.2 = σ * f[j].2) (hab : b.2.natAbs = f[j].2.natAbs)
    (hK : K + 52 ≤ 880) (hT : mass (vals e) + mass (vals f) + f.length * (e.length + f.length) * 2 ^ K ≤ 2 ^ 52 * 2 ^ K) (hl : Lst w g3 (e.length + f.length) S) :
    Calls Try.prog 96 #[.slice (some ⟨g3, 0, none⟩) S.length (e.length + f.length), .float .f64 b.1] w fun e' w' =>
      ∃ out : Ws, e' = .returned (.slice (some ⟨g3, 0, none⟩) out.length (e.length + f.length)) ∧ Hid (Lst w' g3 (e.length + f.length) out ∧ AddInv σ e f K (j + 1) out ∧ w.grownBy w' (some g3)) := by
  have hl' := h.len
  refine (grow_at g3 _ S b K w hl (by omega) hF hR hK (by rw [hab]; exact h.fits hj hT)).mono ?_
  rintro e' w' ⟨out, rfl, h1, h2, h3, h4, h5⟩
  exact ⟨out, rfl, h1, h.next hj hb hab h2 h3 h4, h5⟩

set_option maxHeartbeats 800000 in
theorem plus_any (g1 c1 g2 c2 : Nat) (e f : Ws) (K : Nat) (w : World) (h1 : Lst w g1 c1 e) (h2 : Lst w g2 c2 f) (hs : e.length + f.length ≤ 4096) (hK : K + 52 ≤ 880)
    (hT : mass (vals e) + mass (vals f) + f.length * (e.length + f.length) * 2 ^ K ≤ 2 ^ 52 * 2 ^ K) :
    Calls Try.prog 83 #[.slice (some ⟨g1, 0, none⟩) e.length c1, .slice (some ⟨g2, 0, none⟩) f.length c2] w fun e' w' =>
      ∃ (g3 : Nat) (out : Ws), e' = .returned (.slice (some ⟨g3, 0, none⟩) out.length (e.length + f.length)) ∧ Hid (Lst w' g3 (e.length + f.length) out ∧ w.heap.size ≤ g3 ∧ New w w' ∧ AddInv 1 e f K f.length out) := by
  have HT : Hid (mass (vals e) + mass (vals f) + f.length * (e.length + f.length) * 2 ^ K ≤ 2 ^ 52 * 2 ^ K) := hT
  clear hT
  go_enter Try.func83, Try.ntmps83
  go_wp2_with fail
  refine (copy_any g1 c1 e f.length w h1 (by omega)).mono ?_
  rintro e' w1 ⟨rfl, H1⟩
  go_wp2_with fail
  go_loopw [5, 14] (fun v i wr => ∃ (k : Nat) (S : Ws), i = .int .i64 k ∧ v = .slice (some ⟨w.heap.size, 0, none⟩) S.length (e.length + f.length) ∧ Hid (Lst wr w.heap.size (e.length + f.length) S ∧ New w wr ∧ AddInv 1 e f K k S))
    (fun _ i _ => f.length - (intOf i).toNat)
  case atStart => exact ⟨0, e, rfl, rfl, H1.out.1, H1.out.2, AddInv.start 1 e f K⟩
  case round =>
    obtain ⟨k, S, rfl, rfl, H⟩ := hrel
    have hle := H.out.2.2.le
    by_cases hk : k < f.length
    · have hcell := (h2.kept H.out.2.1 (by simp)).cell hk
      go_wp2_with fail
      refine (add_step H.out.2.2 hk f[k] (h2.words _ (List.getElem_mem hk)) (ex_reps h2.ex _ (List.getElem_mem hk)) (by omega) rfl hK HT.out H.out.1).mono ?_
      rintro e' w2 ⟨out, rfl, H2⟩
      go_wp2_with fail
      go_roundw
      case rel => exact ⟨k + 1, out, by go_num, rfl, H2.out.1, H.out.2.1.trans H2.out.2.2 (by rintro g ⟨⟩; exact Nat.le_refl _), H2.out.2.1⟩
      case measure => simp [intOf]; omega
    · have hk2 : k = f.length := by omega
      subst hk2
      go_wp2_with fail
      go_ret
      exact ⟨w.heap.size, S, rfl, H.out.1, Nat.le_refl _, H.out.2.1, H.out.2.2⟩

set_option maxHeartbeats 800000 in
theorem minus_any (g1 c1 g2 c2 : Nat) (e f : Ws) (K : Nat) (w : World) (h1 : Lst w g1 c1 e) (h2 : Lst w g2 c2 f) (hs : e.length + f.length ≤ 4096) (hK : K + 52 ≤ 880)
    (hT : mass (vals e) + mass (vals f) + f.length * (e.length + f.length) * 2 ^ K ≤ 2 ^ 52 * 2 ^ K) :
    Calls Try.prog 77 #[.slice (some ⟨g1, 0, none⟩) e.length c1, .slice (some ⟨g2, 0, none⟩) f.length c2] w fun e' w' =>
      ∃ (g3 : Nat) (out : Ws), e' = .returned (.slice (some ⟨g3, 0, none⟩) out.length (e.length + f.length)) ∧ Hid (Lst w' g3 (e.length + f.length) out ∧ w.heap.size ≤ g3 ∧ New w w' ∧ AddInv (-1) e f K f.length out) := by
  have HT : Hid (mass (vals e) + mass (vals f) + f.length * (e.length + f.length) * 2 ^ K ≤ 2 ^ 52 * 2 ^ K) := hT
  clear hT
  have hng := fneg
  go_enter Try.func77, Try.ntmps77
  go_wp2_with fail
  refine (copy_any g1 c1 e f.length w h1 (by omega)).mono ?_
  rintro e' w1 ⟨rfl, H1⟩
  go_wp2_with fail
  go_loopw [5, 14] (fun v i wr => ∃ (k : Nat) (S : Ws), i = .int .i64 k ∧ v = .slice (some ⟨w.heap.size, 0, none⟩) S.length (e.length + f.length) ∧ Hid (Lst wr w.heap.size (e.length + f.length) S ∧ New w wr ∧ AddInv (-1) e f K k S))
    (fun _ i _ => f.length - (intOf i).toNat)
  case atStart => exact ⟨0, e, rfl, rfl, H1.out.1, H1.out.2, AddInv.start (-1) e f K⟩
  case round =>
    obtain ⟨k, S, rfl, rfl, H⟩ := hrel
    have hle := H.out.2.2.le
    by_cases hk : k < f.length
    · have hcell := (h2.kept H.out.2.1 (by simp)).cell hk
      go_wp2_with fail
      refine (add_step H.out.2.2 hk (ng f[k].1, -f[k].2) (h2.words _ (List.getElem_mem hk)).neg (ex_reps h2.ex _ (List.getElem_mem hk)).neg (by simp) (by simp) hK HT.out H.out.1).mono ?_
      rintro e' w2 ⟨out, rfl, H2⟩
      go_wp2_with fail
      go_roundw
      case rel => exact ⟨k + 1, out, by go_num, rfl, H2.out.1, H.out.2.1.trans H2.out.2.2 (by rintro g ⟨⟩; exact Nat.le_refl _), H2.out.2.1⟩
      case measure => simp [intOf]; omega
    · have hk2 : k = f.length := by omega
      subst hk2
      go_wp2_with fail
      go_ret
      exact ⟨w.heap.size, S, rfl, H.out.1, Nat.le_refl _, H.out.2.1, H.out.2.2⟩

/-- The sign of a number. -/
def sgn (x : Int) : Int := if x < 0 then -1 else if x = 0 then 0 else 1

theorem order_neg {l : Nat × Int} (h : F l.1 l.2 0) : (FloatKind.f64.format.order l.1 0 == some .lt) = true ↔ l.2 < 0 := by
  have h0 : F 0 0 0 := F.ofInt 0 (by decide)
  have e2 : FloatKind.f64.format.order l.1 0 = some (compare l.2 0) := h.order h0
  rw [e2]
  rcases Int.lt_trichotomy l.2 0 with hz | hz | hz
  · rw [Int.compare_eq_lt.2 hz]; simp [hz]
  · rw [Int.compare_eq_eq.2 hz]; simp [hz]
  · rw [Int.compare_eq_gt.2 hz]; simp; omega

set_option maxHeartbeats 400000 in
theorem sign_any (g c : Nat) (e : Ws) (w : World) (h : Lst w g c e) :
    Calls Try.prog 78 #[.slice (some ⟨g, 0, none⟩) e.length c] w fun e' w' => e' = .returned (.int .i64 (sgn (total (vals e)))) ∧ w' = w := by
  have hsm := h.small
  have hle := h.le
  by_cases h0 : e.length = 0
  · have hn : e = [] := List.eq_nil_of_length_eq_zero h0
    subst hn
    go_enter Try.func78, Try.ntmps78
    go_wp2
    go_ret
    exact ⟨rfl, rfl⟩
  · have hlt : e.length - 1 < e.length := by omega
    have hcell := h.cell hlt
    have hF := h.words _ (List.getElem_mem hlt)
    have hv : vals e ≠ [] := by intro h1; simp [vals] at h1; subst h1; simp at h0
    have hs := h.ex.sign hv
    have hlast : (vals e).getLast hv = e[e.length - 1].2 := by rw [List.getLast_eq_getElem]; simp [vals]
    rw [hlast] at hs
    have hz : ((e.length : Int) == 0) = false := by rw [beq_eq_false_iff_ne]; omega
    have HS : Hid (((FloatKind.f64.format.order e[e.length - 1].1 0 == some .lt) = true ↔ e[e.length - 1].2 < 0) ∧ (total (vals e) < 0 ↔ e[e.length - 1].2 < 0) ∧ total (vals e) ≠ 0) := ⟨order_neg hF, hs.1, hs.2.2⟩
    clear hF hs hlast hv
    by_cases hneg : (FloatKind.f64.format.order e[e.length - 1].1 0 == some .lt) = true
    · have ht : sgn (total (vals e)) = -1 := by unfold sgn; rw [if_pos (HS.out.2.1.2 (HS.out.1.1 hneg))]
      rw [ht]
      go_enter Try.func78, Try.ntmps78
      go_wp2
      go_ret
      exact ⟨rfl, rfl⟩
    · have hneg' : (FloatKind.f64.format.order e[e.length - 1].1 0 == some .lt) = false := by simpa using hneg
      have ht : sgn (total (vals e)) = 1 := by
        unfold sgn
        rw [if_neg (fun h1 => hneg (HS.out.1.2 (HS.out.2.1.1 h1))), if_neg HS.out.2.2]
      rw [ht]
      clear hneg
      go_enter Try.func78, Try.ntmps78
      go_wp2
      go_ret
      exact ⟨rfl, rfl⟩

end Go.Proofs.Ytgeoffpcmkofkaa
