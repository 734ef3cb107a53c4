/- The walk of hull's 'around'. -/
import Derived.Test.YtgeoffpcmkofkaaQe
import Derived.Test.YtgeoffpcmkofkaaQf
import Derived.Test.YtgeoffpcmkofkaaQg
namespace Go.Proofs.Ytgeoffpcmkofkaa
open Go.RowKit Fl Go.Lib
set_option maxRecDepth 100000
attribute [local go_sem ↓] Go.wp_at_zero Go.wp_at_succ

/-- There and back, each without its last point. -/
def ringL (s : Pts) : Pts := if s.length < 2 then s else (wayOf D s).reverse.dropLast ++ (wayOf D s.reverse).reverse.dropLast

theorem OwnP.base {w : World} {b b' : Nat} {v : Value} {l : Pts} (h : OwnP w b v l) (hb : b' ≤ b) : OwnP w b' v l :=
  ⟨h.1, h.2.imp id fun ⟨g, cap, cur, h1, h2, h3⟩ => ⟨g, cap, cur, h1, Nat.le_trans hb h2, h3⟩⟩
theorem OwnP.but {w w' : World} {base g g2 n cap : Nat} {l : Pts} (h : OwnP w base (.slice (some ⟨g, 0, none⟩) n cap) l) (hg : w.grownBy w' (some g2)) (hne : g ≠ g2) : OwnP w' base (.slice (some ⟨g, 0, none⟩) n cap) l :=
  World.ownsRow.kept h hg (.inr (by simp [Value.ownBlock, hne]))
theorem pops_ne (p : Pt) : ∀ {l : Pts}, l ≠ [] → pops D p l ≠ []
  | [], h => absurd rfl h
  | [a], _ => by simp [pops]
  | t :: s :: l, _ => by
    rw [pops]
    split
    · exact pops_ne p (by simp)
    · simp
theorem pops_le (p : Pt) : ∀ l : Pts, (pops D p l).length ≤ l.length
  | [] => by simp [pops]
  | [a] => by simp [pops]
  | t :: s :: l => by
    rw [pops]
    split
    · have := pops_le p (s :: l); simp at this ⊢; omega
    · simp
theorem way_ne : ∀ (k : Nat) (s : Pts), 0 < k → k ≤ s.length → wayOf D (s.take k) ≠ []
  | 0, _, h, _ => by omega
  | k + 1, s, _, h => by rw [wayOf_succ (List.getElem?_eq_getElem (show k < s.length by omega))]; simp
theorem way_len {s : Pts} (h : 2 ≤ s.length) : 2 ≤ (wayOf D s).length := by
  obtain ⟨k, hk⟩ : ∃ k, s.length = k + 1 + 1 := ⟨s.length - 2, by omega⟩
  have e := wayOf_succ (l := s) (k := k + 1) (List.getElem?_eq_getElem (show k + 1 < s.length by omega))
  rw [show k + 1 + 1 = s.length by omega, List.take_length] at e
  rw [e]
  have h1 := pops_ne s[k + 1] (way_ne (k + 1) s (by omega) (by omega))
  have : 0 < (pops D s[k + 1] (wayOf D (s.take (k + 1)))).length := List.length_pos_iff.2 h1
  simp
  omega
theorem way_le : ∀ (k : Nat) (s : Pts), k ≤ s.length → (wayOf D (s.take k)).length ≤ k
  | 0, _, _ => by simp [wayOf]
  | k + 1, s, h => by
    rw [wayOf_succ (List.getElem?_eq_getElem (show k < s.length by omega))]
    have h1 := way_le k s (by omega)
    have h2 := pops_le s[k] (wayOf D (s.take k))
    simp
    omega
theorem way_le' (s : Pts) : (wayOf D s).length ≤ s.length := by
  have := way_le s.length s (Nat.le_refl _)
  rwa [List.take_length] at this

theorem pts_cut {w : World} {g : Nat} {t : Pts} (h : PtsAt w g 0 t) : PtsAt w g 0 t.dropLast := fun i hi => by
  have h1 : i < t.length := by simp at hi; omega
  have h2 := h i h1
  have e : t.dropLast[i] = t[i] := List.getElem_dropLast hi
  rw [e]
  exact h2

set_option maxHeartbeats 1600000 in
theorem around_some (g off cap : Nat) (l : Pts) (w : World) (hp : PtsAt w g off l) (hl : l.length ≤ 400000) (hc : ∀ x ∈ l, CdP x) :
    Calls Try.prog 70 #[.slice (some ⟨g, off, none⟩) l.length cap] w fun e w' => ∃ v s, e = .returned v ∧ Hid (IsDis l s ∧ New w w' ∧ OwnP w' w.heap.size v (ringL s)) := by
  have HC : Hid (∀ x ∈ l, CdP x) := hc
  go_enter Try.func70, Try.ntmps70
  go_wp2_with fail
  refine (distinct_some g off cap l w hp (by omega) hc).mono ?_
  rintro e w1 ⟨v1, s, rfl, H1⟩
  obtain ⟨ad, c1, hv⟩ : ∃ ad c1, v1 = .slice ad s.length c1 := by
    rcases H1.out.2.2.form with ⟨e1, e2⟩ | ⟨g2, c2, e1, _⟩
    · exact ⟨none, 0, by rw [e1, e2]; rfl⟩
    · exact ⟨_, c2, e1⟩
  clear hp hc
  rcases Nat.lt_or_ge s.length 2 with h2 | h2
  · subst hv
    have HR : Hid (ringL s = s) := if_pos h2
    have h2' : (s.length : Int) < 2 := by omega
    go_wp2_with fail
    go_ret
    exact ⟨_, s, rfl, H1.out.1, H1.out.2.1, by rw [HR.out]; exact H1.out.2.2⟩
  · clear hv ad c1
    rcases H1.out.2.2.form with ⟨_, e2⟩ | ⟨g1, c1, e1, hb1, hg1, hlc, hcm⟩
    · rw [e2] at h2; simp at h2
    · subst e1
      have hsl := H1.out.1.len
      have HS : Hid (w.heap.size ≤ g1 ∧ g1 < w1.heap.size ∧ 2 ≤ s.length ∧ ∀ x ∈ s, CdP x) := ⟨hb1, hg1, h2, fun x hx => HC.out x ((H1.out.1.mem x).1 hx)⟩
      have hsl' : s.length ≤ 400000 := by omega
      have h2' : ¬(s.length : Int) < 2 := by omega
      clear hb1 hg1 hcm hsl h2
      go_wp2_with fail
      refine (left_any g1 c1 s w1 H1.out.2.2.pts HS.out.2.1 (by omega) HS.out.2.2.2).mono ?_
      rintro e w2 ⟨v2, t2, rfl, H2⟩
      have k2 : OwnP w2 w.heap.size (.slice (some ⟨g1, 0, none⟩) s.length c1) s := H1.out.2.2.new H2.out.2.1
      go_wp2_with fail
      refine (reverse_any w.heap.size g1 c1 s w2 k2 (by omega)).mono ?_
      rintro e w3 ⟨rfl, H3⟩
      go_wp2_with fail
      have k3 : OwnP w3 w.heap.size (.slice (some ⟨g1, 0, none⟩) s.reverse.length c1) s.reverse := by rw [List.length_reverse]; exact H3.out.2
      have hb := left_any g1 c1 s.reverse w3 k3.pts (by have := H3.out.1.size; have := H2.out.2.1.size; have := HS.out.2.1; omega) (by simp; omega) (fun x hx => HS.out.2.2.2 x (by simpa using hx))
      rw [List.length_reverse] at hb
      refine hb.mono ?_
      clear hb k2 k3
      rintro e w4 ⟨v4, t4, rfl, H4⟩
      rcases H2.out.2.2.form with ⟨_, e2⟩ | ⟨g2, c2, e2, hb2, hg2, hlc2, _⟩
      · have h5 := way_len HS.out.2.2.1
        rw [← H2.out.1, e2] at h5
        simp at h5
      · rcases H4.out.2.2.form with ⟨_, e4⟩ | ⟨g4, c4, e4, hb4, hg4, hlc4, _⟩
        · have h5 := way_len (s := s.reverse) (by simpa using HS.out.2.2.1)
          rw [← H4.out.1, e4] at h5
          simp at h5
        · subst e2 e4
          have q2 : 2 ≤ t2.length := by have h5 := way_len HS.out.2.2.1; rw [← H2.out.1] at h5; simpa using h5
          have q4 : 2 ≤ t4.length := by have h5 := way_len (s := s.reverse) (by simpa using HS.out.2.2.1); rw [← H4.out.1] at h5; simpa using h5
          have u2 : t2.length ≤ s.length := by have h5 := way_le' s; rw [← H2.out.1] at h5; simpa using h5
          have u4 : t4.length ≤ s.length := by have h5 := way_le' s.reverse; rw [← H4.out.1] at h5; simpa using h5
          have o2 : OwnP w4 w.heap.size (.slice (some ⟨g2, 0, none⟩) t2.length c2) t2 := by
            have := HS.out.2.1
            exact ((H2.out.2.2.base H1.out.2.1.size).but H3.out.1 (by omega)).new H4.out.2.1
          have HN : Hid (New w w4) := (((H1.out.2.1.trans' H2.out.2.1).own H3.out.1 HS.out.1).trans' H4.out.2.1)
          obtain ⟨n2, en2⟩ : ∃ n, t2.length = n + 1 := ⟨t2.length - 1, by omega⟩
          obtain ⟨n4, en4⟩ : ∃ n, t4.length = n + 1 := ⟨t4.length - 1, by omega⟩
          have HK : Hid (∀ V, New w4 V → V.cell? ⟨w4.heap.size, 0, none⟩ = some (.slice (some ⟨g2, 0, none⟩) n2 c2) → V.cell? ⟨w4.heap.size, 1, none⟩ = some (.slice (some ⟨g4, 0, none⟩) n4 c4) → Calls Try.prog 89 #[.slice (some ⟨w4.heap.size, 0, none⟩) 2 2] V fun e w' => ∃ v, e = .returned v ∧ Hid (New w w' ∧ OwnP w' w.heap.size v (ringL s))) := fun V hV x1 x2 => by
            have l2 : t2.dropLast.length = n2 := by simp [en2]
            have l4 : t4.dropLast.length = n4 := by simp [en4]
            have hq := concat_two w4.heap.size g2 c2 g4 c4 t2.dropLast t4.dropLast V (by rw [l2]; exact x1) (by rw [l4]; exact x2) (pts_cut (o2.new hV).pts) (pts_cut (H4.out.2.2.new hV).pts) (by have := hV.size; have := H4.out.2.1.size; have := H3.out.1.size; omega) (by have := hV.size; omega) (by omega) (by omega)
            refine hq.mono ?_
            rintro e w' ⟨v, rfl, H5⟩
            refine ⟨v, rfl, (HN.out.trans' hV).trans' H5.out.1, ?_⟩
            have e : ringL s = t2.dropLast ++ t4.dropLast := by
              unfold ringL
              rw [if_neg (by have := HS.out.2.2.1; omega), ← H2.out.1, ← H4.out.1, List.reverse_reverse, List.reverse_reverse]
            rw [e]
            exact H5.out.2.base (Nat.le_trans HN.out.size hV.size)
          rw [en2] at hlc2 ⊢
          rw [en4] at hlc4 ⊢
          have HI : Hid (IsDis l s) := H1.out.1
          have b2 : n2 ≤ c2 := by omega
          have b4 : n4 ≤ c4 := by omega
          have x2 : IntKind.i64.wrap ((n2 : Int) + 1 - 1) = (n2 : Int) := by rw [IntKind.wrap_i64]; omega
          have x4 : IntKind.i64.wrap ((n4 : Int) + 1 - 1) = (n4 : Int) := by rw [IntKind.wrap_i64]; omega
          have y2 : IntKind.i64.wrap (n2 : Int) = (n2 : Int) := by rw [IntKind.wrap_i64]; omega
          have y4 : IntKind.i64.wrap (n4 : Int) = (n4 : Int) := by rw [IntKind.wrap_i64]; omega
          have z2 : ((n2 + 1 : Nat) : Int) = (n2 : Int) + 1 := by omega
          have z4 : ((n4 + 1 : Nat) : Int) = (n4 : Int) + 1 := by omega
          have f2 : (0 : Int) ≤ (n2 : Int) := by omega
          have f4 : (0 : Int) ≤ (n4 : Int) := by omega
          have j2 : (n2 : Int) ≤ (c2 : Int) := by omega
          have j4 : (n4 : Int) ≤ (c4 : Int) := by omega
          clear H1 H2 H3 H4 o2 q2 q4 u2 u4 hlc2 hlc4 en2 en4 hb2 hb4 hg2 hg4 hlc hsl' h2'
          go_wp2_with fail
          go_region_held3 (fun _ => 0 ≤ 0) (first | exact Nat.le_refl 0)
            (first | (go_at_call 89; refine (HK.out _ ((New.refl w4).dr.alloc' _) (by go_simp) (by go_simp)).mono ?_; rintro e w5 ⟨v5, rfl, H5⟩))
          go_wp2_with fail
          go_ret
          exact ⟨v5, s, rfl, HI.out, H5.out⟩

set_option maxHeartbeats 800000 in
theorem around_nil (w : World) : Calls Try.prog 70 #[.slice none 0 0] w fun e w' => e = .returned (.slice none 0 0) ∧ Hid (New w w') := by
  go_enter Try.func70, Try.ntmps70
  go_wp2_with fail
  refine (distinct_nil w).mono ?_
  rintro e w1 ⟨rfl, H1⟩
  go_wp2_with fail
  go_ret
  exact ⟨rfl, H1.out⟩
end Go.Proofs.Ytgeoffpcmkofkaa
