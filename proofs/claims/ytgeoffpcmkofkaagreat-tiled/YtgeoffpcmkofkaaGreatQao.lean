/- Rn; Se: texts laid into one. -/
import Derived.Test.YtgeoffpcmkofkaaGreatQam
import Derived.Test.YtgeoffpcmkofkaaGreatQan
import Derived.Test.YtgeoffpcmkofkaaGreatQaf
/- The walks of 'Of' of package mesh and of 'Triangulate'. -/
namespace Go.Proofs.YtgeoffpcmkofkaaGreat
open Go.RowKit Go.Maps Fl
set_option maxRecDepth 100000
attribute [local go_sem ↓] Go.wp_at_zero Go.wp_at_succ

theorem sweep_nil (w : World) : Calls Tryz.prog 26 #[.slice none 0 0] w fun e w' => ∃ b, e = .returned (.map (some b)) ∧ Hid (New w w' ∧ w.heap.size ≤ b ∧ MapE w' b 1000000000 (fun _ => none)) := by
  have hmm := @run_makeMap Tryz.prog 51 w
  go_enter Tryz.func26, Tryz.ntmps26
  go_wp2_with fail
  refine (inLine_nil _).mono ?_
  rintro e w1 ⟨rfl, H1⟩
  go_wp2_with fail
  go_ret
  exact ⟨_, rfl, (New.alloc _ _).trans' H1.out, Nat.le_refl _, ((mapE_made w).new H1.out).mono (by omega)⟩

theorem sweep_own (base : Nat) (v : Value) (s : Pts) (w : World) (h : OwnP w base v s) (hr : Rising s) (hc : ∀ x ∈ s, CdP x) (h40 : s.length ≤ 40) :
    Calls Tryz.prog 26 #[v] w fun e w' => ∃ b, e = .returned (.map (some b)) ∧ Hid (New w w' ∧ w.heap.size ≤ b ∧ MapE w' b 1000000000 (meshOf s)) := by
  rcases h.form with ⟨e1, e2⟩ | ⟨g, cap, e1, _, hg, hlc, _⟩
  · subst e1 e2
    have e : meshOf [] = fun _ => none := by
      obtain ⟨n, hn⟩ := line_exists []
      rcases meshOf_ok hn hr with k | k
      · exact k.2
      · have := k.1; simp at this
    rw [e]
    exact sweep_nil w
  · subst e1
    exact sweep_some base g cap s.length s w rfl h hg hr hc h40 hlc

set_option maxHeartbeats 1600000 in
/-- 'Of', over any slice of which these two calls know what lies there. -/
theorem of_gen (v0 : Value) (l : Pts) (w : World) (hD : Calls Tryz.prog 27 #[v0] w fun e w' => ∃ v s, e = .returned v ∧ Hid (IsDis l s ∧ New w w' ∧ OwnP w' w.heap.size v s))
    (hF : ∀ W, New w W → Calls Tryz.prog 30 #[v0] W fun e w' => ∃ b, e = .returned (.map (some b)) ∧ Hid (New W w' ∧ W.heap.size ≤ b ∧ MapI w' b l.length (numN l l.length)))
    (h0 : errL l = 0) :
    Calls Tryz.prog 19 #[v0] w fun e w' => ∃ v, e = .returned v ∧ Hid (New w w' ∧ Answer l (triOf l) ∧ OwnT w' w.heap.size v (triOf l)) := by
  have H : Hid ((Calls Tryz.prog 27 #[v0] w fun e w' => ∃ v s, e = .returned v ∧ Hid (IsDis l s ∧ New w w' ∧ OwnP w' w.heap.size v s)) ∧
    (∀ W, New w W → Calls Tryz.prog 30 #[v0] W fun e w' => ∃ b, e = .returned (.map (some b)) ∧ Hid (New W w' ∧ W.heap.size ≤ b ∧ MapI w' b l.length (numN l l.length))) ∧ errL l = 0 ∧ l.length ≤ 40 ∧ (∀ x ∈ l, CdP x)) :=
    ⟨hD, hF, h0, (errL_ok h0).1, fun x hx => okB_cd (errL_ok h0).2 hx⟩
  clear hD hF h0
  go_enter Tryz.func19, Tryz.ntmps19
  go_wp2_with fail
  refine H.out.1.mono ?_
  rintro e w1 ⟨v1, s, rfl, H1⟩
  have HS : Hid (Rising s ∧ (∀ x ∈ s, CdP x) ∧ s.length ≤ 40) := ⟨H1.out.1.rising, fun x hx => H.out.2.2.2.2 x ((H1.out.1.mem x).1 hx), Nat.le_trans H1.out.1.len H.out.2.2.2.1⟩
  go_wp2_with fail
  refine (sweep_own w.heap.size v1 s w1 H1.out.2.2 HS.out.1 HS.out.2.1 HS.out.2.2).mono ?_
  rintro e w2 ⟨b, rfl, H2⟩
  go_wp2_with fail
  refine (settle_any b s (meshOf s) w2 H2.out.2.2 (meshOf_is s HS.out.1) HS.out.1 HS.out.2.1 HS.out.2.2).mono ?_
  rintro e w3 ⟨rfl, H3⟩
  have N3 : Hid (New w w3 ∧ w.heap.size ≤ b) := by
    have h1 := H1.out.2.1.size
    have h2 := H2.out.2.1
    exact ⟨(H1.out.2.1.trans' H2.out.1).own H3.out.2 (by omega), by omega⟩
  go_wp2_with fail
  refine (H.out.2.1 w3 N3.out.1).mono ?_
  rintro e w4 ⟨bn, rfl, H4⟩
  have HOK : Hid (Ok s (settledM s (meshOf s))) := settled_is s HS.out.1
  go_wp2_with fail
  refine (triangles_any b 1010000000 bn l.length (settledM s (meshOf s)) (numN l l.length) w4 (pairs s) (H3.out.1.new H4.out.1) H4.out.2.2 (HOK.out.vals HS.out.2.1)
    (fun e he => by obtain ⟨c, hc⟩ := isSome_get he; have := HOK.out.mem e.1 e.2 c hc; exact mem_pairs.2 ⟨this.1, this.2.1⟩)
    (by rw [pairs_length]; have := Nat.mul_le_mul HS.out.2.2 HS.out.2.2; omega)
    (fun e f c d he hf k1 k2 => by
      have m1 := HOK.out.mem e.1 e.2 c he
      have m2 := HOK.out.mem f.1 f.2 d hf
      have q1 := nr_inj ((H1.out.1.mem _).1 m1.1) ((H1.out.1.mem _).1 m2.1) k1
      have q2 := nr_inj ((H1.out.1.mem _).1 m1.2.1) ((H1.out.1.mem _).1 m2.2.1) k2
      exact Prod.ext q1 q2)).mono ?_
  rintro e w5 ⟨v5, L, rfl, H5⟩
  go_wp2_with fail
  go_ret
  have hA : Answer l L := ⟨s, H1.out.1, H5.out.2.1⟩
  have hT := triOf_eq H.out.2.2.1 hA
  have h4 : w.heap.size ≤ w4.heap.size := Nat.le_trans N3.out.1.size H4.out.1.size
  rw [hT]
  exact ⟨v5, rfl, N3.out.1.trans' (H4.out.1.trans' H5.out.1), hA, H5.out.2.2.1, H5.out.2.2.2.imp id fun ⟨g, cap, cur, a1, a2, a3⟩ => ⟨g, cap, cur, a1, by omega, a3⟩⟩

set_option maxHeartbeats 800000 in
/-- checkPoints, at lists that are not too long. -/
theorem checkPoints_len (g off cap : Nat) (l : Pts) (w : World) (h : PtsAt w g off l) (hg : g < w.heap.size) (hs : l.length ≤ 100000000000000) :
    Calls Tryz.prog 23 #[.slice (some ⟨g, off, none⟩) l.length cap] w fun e w' => e = .returned (.int .i64 (okE l)) ∧ Hid (New w w') := by
  go_enter Tryz.func23, Tryz.ntmps23
  go_wp2_with fail
  go_loopw [7] (fun i wr => ∃ k : Nat, i = .int .i64 k ∧ k ≤ l.length ∧ Hid (New w wr ∧ okB (l.take k) = true))
    (fun i _ => l.length - (intOf i).toNat)
  case atStart => exact ⟨0, rfl, Nat.zero_le _, New.refl _, rfl⟩
  case round =>
    obtain ⟨k, rfl, hle, H⟩ := hrel
    by_cases hk : k < l.length
    · have hc1 := ((h.kept hg H.out.1) k hk).1
      have hc2 := ((h.kept hg H.out.1) k hk).2
      go_wp2_with fail
      refine (isCoord_any l[k].1 _).mono ?_
      rintro e w1 ⟨rfl, rfl⟩
      cases hb1 : cdB l[k].1 with
      | false =>
        go_wp2_with fail
        go_ret
        exact ⟨by rw [okE, okB_bad hk (Or.inl hb1)]; rfl, H.out.1.alloc' _⟩
      | true =>
        go_wp2_with fail
        refine (isCoord_any l[k].2 _).mono ?_
        rintro e w1 ⟨rfl, rfl⟩
        cases hb2 : cdB l[k].2 with
        | false =>
          go_wp2_with fail
          go_ret
          exact ⟨by rw [okE, okB_bad hk (Or.inr hb2)]; rfl, H.out.1.alloc' _⟩
        | true =>
          go_wp2_with fail
          go_roundw
          case rel => exact ⟨k + 1, by go_num, hk, H.out.1.alloc' _, okB_take hk H.out.2 hb1 hb2⟩
          case measure => simp [intOf]; omega
    · have hk2 : k = l.length := by omega
      subst hk2
      have hok : okB l = true := by have := H.out.2; rwa [List.take_length] at this
      have HO : Hid (okB l = true) := hok
      clear hok
      go_wp2_with fail
      go_ret
      exact ⟨by rw [okE, HO.out]; rfl, H.out.1⟩

set_option maxHeartbeats 800000 in
theorem checkList_len (ao : Option Addr) (cap : Nat) (l : Pts) (w : World) (h : PolyAt w ao l) :
    Calls Tryz.prog 18 #[.slice ao l.length cap] w fun e w' => e = .returned (.int .i64 (errL l)) ∧ Hid (New w w') := by
  by_cases h40 : 40 < l.length
  · have HE : Hid (errL l = 2) := by rw [Hid, errL, if_pos h40]
    go_enter Tryz.func18, Tryz.ntmps18
    go_wp2_with fail
    go_ret
    exact ⟨by rw [HE.out]; rfl, New.refl _⟩
  · have HE : Hid (errL l = okE l) := by rw [Hid, errL, if_neg h40]
    have HC : Hid (∀ W, New w W → Calls Tryz.prog 23 #[.slice ao l.length cap] W fun e w' => e = .returned (.int .i64 (okE l)) ∧ Hid (New W w')) := by
      intro W hW
      match l, h with
      | [], _ => exact checkPoints_none ao cap W
      | q :: l, h =>
        obtain ⟨g, off, rfl, h1, h2⟩ := h (by simp)
        exact checkPoints_len g off cap (q :: l) W (h1.kept h2 hW) (Nat.lt_of_lt_of_le h2 hW.size) (by omega)
    clear h
    go_enter Tryz.func18, Tryz.ntmps18
    go_wp2_with fail
    refine (HC.out _ (New.refl w)).mono ?_
    rintro e w1 ⟨rfl, H1⟩
    go_wp2_with fail
    go_ret
    exact ⟨by rw [HE.out]; rfl, H1⟩

set_option maxHeartbeats 800000 in
theorem tri_some (g cap : Nat) (l : Pts) (w : World) (hp : PtsAt w g 0 l) (hg : g < w.heap.size) :
    Calls Tryz.prog 7 #[.slice (some ⟨g, 0, none⟩) l.length cap] w fun e w' => ∃ v, e = .returned (.tuple #[v, .int .i64 (errL l)]) ∧ Hid (New w w' ∧ (errL l = 0 → Answer l (triOf l)) ∧ OwnT w' w.heap.size v (triOf l)) := by
  have HP : Hid (PtsAt w g 0 l ∧ g < w.heap.size) := ⟨hp, hg⟩
  clear hp hg
  go_enter Tryz.func7, Tryz.ntmps7
  go_wp2_with fail
  refine (checkList_len (some ⟨g, 0, none⟩) cap l _ (fun _ => ⟨g, 0, rfl, HP.out.1, HP.out.2⟩)).mono ?_
  rintro e w1 ⟨rfl, H1⟩
  by_cases h0 : errL l = 0
  · have HE : Hid (errL l = 0) := h0
    have HC : Hid (Calls Tryz.prog 19 #[.slice (some ⟨g, 0, none⟩) l.length cap] w1 fun e w' => ∃ v, e = .returned v ∧ Hid (New w1 w' ∧ Answer l (triOf l) ∧ OwnT w' w1.heap.size v (triOf l))) := by
      have h1 := HP.out.1.kept HP.out.2 H1.out
      have h2 := Nat.lt_of_lt_of_le HP.out.2 H1.out.size
      have h3 := errL_ok h0
      have h4 : ∀ x ∈ l, CdP x := fun x hx => okB_cd h3.2 hx
      exact of_gen _ l w1 (distinct_some g cap l w1 h1 (by omega) h4) (fun W hW => first_some g cap l W (h1.kept h2 hW) (Nat.lt_of_lt_of_le h2 hW.size) (by omega) h4) h0
    rw [h0]
    go_wp2_with fail
    refine HC.out.mono ?_
    rintro e w2 ⟨v, rfl, H2⟩
    go_wp2_with fail
    go_ret2
    have hs := H1.out.size
    exact ⟨v, by rw [HE.out]; rfl, H1.out.trans' H2.out.1, fun _ => H2.out.2.1, H2.out.2.2.1, H2.out.2.2.2.imp id fun ⟨g, cap, cur, a1, a2, a3⟩ => ⟨g, cap, cur, a1, by omega, a3⟩⟩
  · have HE : Hid (errL l ≠ 0) := h0
    go_wp2_with fail
    go_ret2
    refine ⟨_, rfl, H1.out, fun h => absurd h HE.out, ?_⟩
    rw [triOf_bad HE.out]
    exact World.ownsRow_nil _ _ _ _

set_option maxHeartbeats 800000 in
theorem tri_nil (w : World) :
    Calls Tryz.prog 7 #[.slice none 0 0] w fun e w' => ∃ v, e = .returned (.tuple #[v, .int .i64 0]) ∧ Hid (New w w' ∧ Answer [] (triOf []) ∧ OwnT w' w.heap.size v (triOf [])) := by
  have h0 : errL [] = 0 := rfl
  go_enter Tryz.func7, Tryz.ntmps7
  go_wp2_with fail
  refine (checkList_len none 0 [] _ (fun h => by simp at h)).mono ?_
  rintro e w1 ⟨rfl, H1⟩
  have HC : Hid (Calls Tryz.prog 19 #[.slice none 0 0] w1 fun e w' => ∃ v, e = .returned v ∧ Hid (New w1 w' ∧ Answer [] (triOf []) ∧ OwnT w' w1.heap.size v (triOf []))) := by
    refine of_gen _ [] w1 ((distinct_nil w1).mono ?_) (fun W hW => first_nil W) h0
    rintro e w2 ⟨rfl, h2⟩
    exact ⟨_, [], rfl, ⟨fun i j x y h => by simp at h, fun x => Iff.rfl, Nat.le_refl _⟩, h2.out, World.ownsRow_nil _ _ _ _⟩
  rw [h0]
  go_wp2_with fail
  refine HC.out.mono ?_
  rintro e w2 ⟨v, rfl, H2⟩
  go_wp2_with fail
  go_ret2
  have hs := H1.out.size
  exact ⟨v, rfl, H1.out.trans' H2.out.1, H2.out.2.1, H2.out.2.2.1, H2.out.2.2.2.imp id fun ⟨g, cap, cur, a1, a2, a3⟩ => ⟨g, cap, cur, a1, by omega, a3⟩⟩

end Go.Proofs.YtgeoffpcmkofkaaGreat
/- The walk of the law 'Tiled'. -/
namespace Go.Proofs.YtgeoffpcmkofkaaGreat
open Go.RowKit Go.Maps Fl
set_option maxRecDepth 100000
attribute [local go_sem ↓] Go.wp_at_zero Go.wp_at_succ

theorem fits_none (ao : Option Addr) (cap : Nat) (w : World) : Calls Tryz.prog 6 #[.slice ao 0 cap] w fun e w' => e = .returned (.slice none 0 0) ∧ Hid (New w w') := by
  go_enter Tryz.func6, Tryz.ntmps6
  go_wp2_with fail
  go_loop [3, 4] (fun u v => u = .slice none 0 0 ∧ v = .int .i64 0) (fun _ _ => 0)
  case atStart => exact ⟨rfl, rfl⟩
  case round =>
    obtain ⟨rfl, rfl⟩ := hrel
    go_wp2_with fail
    go_ret
    exact ⟨rfl, New.refl _⟩

theorem fits_own (ao : Option Addr) (cap : Nat) (raw : Pts) (w : World) (h : PolyAt w ao raw) (hin : In64 raw) (hc : raw.length ≤ cap) (hs : cap ≤ 10000000000000) :
    Calls Tryz.prog 6 #[.slice ao raw.length cap] w fun e w' => ∃ v l, e = .returned v ∧ Hid (New w w' ∧ OwnP w' w.heap.size v l ∧ (∀ x ∈ l, CdP x) ∧ l.length ≤ 40) := by
  match raw, h, hin, hc with
  | [], _, _, _ =>
    refine (fits_none ao cap w).mono ?_
    rintro e w' ⟨rfl, h⟩
    exact ⟨_, [], rfl, h.out, World.ownsRow_nil _ _ _ _, (fun x hx => by simp at hx), by simp⟩
  | q :: raw, h, hin, hc =>
    obtain ⟨g, off, rfl, h1, h2⟩ := h (by simp)
    refine (fits_some g off cap (q :: raw) w h1 h2 hc (by omega) hin).mono ?_
    rintro e w' ⟨v, out, rfl, h⟩
    refine ⟨v, out, rfl, h.out.new, ?_, fun x hx => okB_cd h.out.ok hx, by rw [h.out.len]; omega⟩
    have := h.out.own
    rw [flatP_eq] at this
    unfold OwnP
    rw [h.out.len]
    exact this

theorem flat_nil (w : World) : Calls Tryz.prog 9 #[.slice none 0 0] w fun e w' => e = .returned (.bool true) ∧ Hid (New w w') := by
  go_enter Tryz.func9, Tryz.ntmps9
  go_wp2_with fail
  go_loop [3] (fun v => v = .int .i64 1) (fun _ => 0)
  case atStart => rfl
  case round =>
    subst hrel
    go_wp2_with fail
    go_ret
    exact ⟨rfl, New.refl _⟩

theorem errL_good {l : Pts} (h : ∀ x ∈ l, CdP x) (hl : l.length ≤ 40) : errL l = 0 := by
  unfold errL okE
  rw [if_neg (by omega), if_pos]
  unfold okB
  rw [List.all_eq_true]
  intro x hx
  rw [Bool.and_eq_true]
  exact ⟨cdB_iff.2 (h x hx).1, cdB_iff.2 (h x hx).2⟩

/-- Whether a point's number has come among the first k triangles. -/
def Seen (L : List Tri3) (i r k : Nat) : Prop := r ≠ i ∨ ∃ j, j < k ∧ ((triN L j).1 = i ∨ (triN L j).2.1 = i ∨ (triN L j).2.2 = i)
theorem Seen.step {L : List Tri3} {i r k : Nat} : Seen L i r (k + 1) ↔ Seen L i r k ∨ ((triN L k).1 = i ∨ (triN L k).2.1 = i ∨ (triN L k).2.2 = i) := by
  unfold Seen
  constructor
  · rintro (h | ⟨j, hj, h⟩)
    · exact .inl (.inl h)
    · rcases Nat.lt_or_ge j k with c | c
      · exact .inl (.inr ⟨j, c, h⟩)
      · rw [show j = k by omega] at h; exact .inr h
  · rintro ((h | ⟨j, hj, h⟩) | h)
    · exact .inl h
    · exact .inr ⟨j, by omega, h⟩
    · exact .inr ⟨k, by omega, h⟩

set_option maxHeartbeats 6400000 in
theorem tiled_law (ao : Option Addr) (cap : Nat) (raw : Pts) (w : World) (h : PolyAt w ao raw) (hin : In64 raw) (hs : cap ≤ 10000000000000) (hc : raw.length ≤ cap) :
    Calls Tryz.prog 3 #[.slice ao raw.length cap] w fun e w' => e = .returned (.bool true) ∧ Hid (New w w') := by
  have HF : Hid (∀ W, New w W → Calls Tryz.prog 6 #[.slice ao raw.length cap] W fun e w' => ∃ v l, e = .returned v ∧ Hid (New W w' ∧ OwnP w' W.heap.size v l ∧ (∀ x ∈ l, CdP x) ∧ l.length ≤ 40)) :=
    fun W hW => fits_own ao cap raw W (h.kept hW) hin hc hs
  clear h hin hs hc
  go_enter Tryz.func3, Tryz.ntmps3
  go_wp2_with fail
  refine (sure_any _).mono ?_
  rintro e w1 ⟨rfl, H1⟩
  go_wp2_with fail
  refine (HF.out w1 H1.out).mono ?_
  rintro e w2 ⟨v2, l, rfl, H2⟩
  have N2 : Hid (New w w2) := H1.out.trans' H2.out.1
  clear HF
  rcases H2.out.2.1.form with ⟨e1, e2⟩ | ⟨g, cp, e1, hb, hg, hlc, hcm⟩
  · subst e1 e2
    go_wp2_with fail
    refine (tri_nil w2).mono ?_
    rintro e w3 ⟨v3, rfl, H3⟩
    have HL : Hid (triOf [] = []) := (answer_good H3.out.2.1).flat (fun i k h1 h2 h3 => by simp at h3)
    have H3' : Hid (∃ p ct, v3 = .slice p 0 ct) := by
      have ho := H3.out.2.2
      rw [HL.out] at ho
      rcases ho.form with ⟨e, _⟩ | ⟨gt, ct, e, _⟩
      · exact ⟨none, 0, e⟩
      · exact ⟨some ⟨gt, 0, none⟩, ct, by simpa using e⟩
    obtain ⟨p, ct, rfl⟩ := H3'.out
    go_wp2_with fail
    refine (proper_none _ _ p ct).mono ?_
    rintro e w4 ⟨rfl, H4⟩
    go_wp2_with fail
    refine (flat_nil _).mono ?_
    rintro e w5 ⟨rfl, H5⟩
    go_wp2_with fail
    go_ret
    exact ⟨rfl, N2.out.trans' (H3.out.1.trans' (H4.out.trans' H5.out))⟩
  · subst e1
    have hl40 : l.length ≤ 40 := H2.out.2.2.2
    have he : errL l = 0 := errL_good H2.out.2.2.1 hl40
    have HL2 : Hid (Lies w2 g l) := ⟨H2.out.2.1.pts, hg, H2.out.2.2.1, hl40⟩
    clear hb hg hlc hcm
    go_wp2_with fail
    refine (tri_some g cp l w2 HL2.out.pts HL2.out.lt).mono ?_
    rintro e w3 ⟨v3, rfl, H3⟩
    obtain ⟨L, hL⟩ : ∃ L, L = triOf l := ⟨_, rfl⟩
    have HG : Hid (Good l L ∧ OwnT w3 w2.heap.size v3 L ∧ L.length ≤ 1000000 ∧ Lies w3 g l ∧ New w w3) := by
      rw [hL]
      exact ⟨answer_good (H3.out.2.1 he), H3.out.2.2, triOf_len l, HL2.out.new H3.out.1, N2.out.trans' H3.out.1⟩
    rw [he]
    clear hL H3 he H2 HL2 N2
    rcases HG.out.2.1.form with ⟨e1, e2⟩ | ⟨gt, ct, e1, _⟩
    · subst e1 e2
      go_wp2_with fail
      refine (proper_none _ _ none 0).mono ?_
      rintro e w4 ⟨rfl, H4⟩
      go_wp2_with fail
      refine (flat_any g cp l _ (HG.out.2.2.2.1.new H4.out)).mono ?_
      rintro e w5 ⟨r, rfl, H5⟩
      have hr : r = true := by
        cases r with
        | true => rfl
        | false => exact absurd rfl (HG.out.1.ne (fun hf => by have := H5.out.2.2 hf; cases this))
      subst hr
      go_wp2_with fail
      go_ret
      exact ⟨rfl, HG.out.2.2.2.2.trans' (H4.out.trans' H5.out.1)⟩
    · subst e1
      have HB : Hid (Both w3 g l w2.heap.size gt ct L) := ⟨HG.out.2.2.2.1, HG.out.2.1, HG.out.1, HG.out.2.2.1⟩
      have hLl : L.length ≤ 1000000 := HG.out.2.2.1
      go_wp2_with fail
      refine (proper_some g cp l w2.heap.size gt ct L w3 HB.out).mono ?_
      rintro e w4 ⟨rfl, H4⟩
      go_wp2_with fail
      refine (flat_any g cp l _ (HB.out.new H4.out).lies).mono ?_
      rintro e w5 ⟨r, rfl, H5⟩
      have HN5 : Hid (New w3 w5) := H4.out.trans' H5.out.1
      cases r with
      | true =>
        have hz : L.length = 0 := by rw [HB.out.good.flat (H5.out.2.1 rfl)]; rfl
        go_wp2_with fail
        go_ret
        exact ⟨rfl, HG.out.2.2.2.2.trans' HN5.out⟩
      | false =>
        have HNF : Hid (¬Flat l) := fun hf => by have := H5.out.2.2 hf; cases this
        have hnz : ¬L.length = 0 := fun e => HB.out.good.ne HNF.out (List.eq_nil_of_length_eq_zero e)
        have hnz' : ((L.length : Int) == 0) = false := by simp only [beq_eq_false_iff_ne, ne_eq]; omega
        clear H4 H5
        go_wp2_with fail
        refine (filled_some g cp l w2.heap.size gt ct L w5 (HB.out.new HN5.out)).mono ?_
        rintro e w6 ⟨rfl, H6⟩
        have HN6 : Hid (New w3 w6) := HN5.out.trans' H6.out
        clear H6 HN5
        go_wp2_with fail
        go_loopw [9] (fun v wr => ∃ i : Nat, v = .int .i64 (i : Int) ∧ i ≤ l.length ∧ Hid (New w3 wr)) (fun v _ => l.length - (intOf v).toNat)
        case atStart => exact ⟨0, rfl, Nat.zero_le _, HN6.out⟩
        case round =>
          obtain ⟨i, rfl, hi, HR⟩ := hrel
          rcases Nat.lt_or_ge i l.length with hi' | hi'
          · have i0 : (0 : Int) ≤ (i : Int) := by omega
            have i1 : (i : Int) < (l.length : Int) := by omega
            have hw1 : IntKind.i64.wrap ((i : Int) + 1) = (i : Int) + 1 := by rw [IntKind.wrap_i64]; omega
            go_wp2_with fail
            refine (first_any g cp l i _ (HB.out.new HR.out).lies hi').mono ?_
            rintro e w7 ⟨r, rfl, H7⟩
            have HN7 : Hid (New w3 w7) := HR.out.trans' H7.out.1
            have hth : ((r : Int) != (i : Int)) = decide (r ≠ i) := by
              by_cases e : r = i
              · simp [e]
              · simp [e]; omega
            generalize wr = ws at *
            go_wp2_with fail
            go_loopw [10, 11] (fun vt vk wr => ∃ (k : Nat) (th : Bool), vk = .int .i64 (k : Int) ∧ vt = .bool th ∧ k ≤ L.length ∧ Hid (New w7 wr ∧ (th = true ↔ Seen L i r k))) (fun _ vk _ => L.length - (intOf vk).toNat)
            case atStart => exact ⟨0, !decide (r = i), rfl, rfl, Nat.zero_le _, New.refl _, by simp [Seen]⟩
            case round =>
              obtain ⟨k, th, rfl, rfl, hk, HK⟩ := hrel
              rcases Nat.lt_or_ge k L.length with hk' | hk'
              · have HBk : Hid (Both wr g l w2.heap.size gt ct L) := HB.out.new (HN7.out.trans' HK.out.1)
                obtain ⟨t0, t1, t2⟩ := HBk.out.own.cell hk'
                obtain ⟨a, b, c, et, hab, hac, hbl, hcl, _, _, _, _, hcirc⟩ := HBk.out.good.tri _ (triN_mem hk')
                have HT : Hid (triN L k = ((a : Int), (b : Int), (c : Int))) := et
                rw [et] at t0 t1 t2
                simp only at t0 t1 t2
                have hal : a < l.length := by omega
                have hC := hcirc i hi'
                clear et hcirc
                have j0 : (0 : Int) ≤ (k : Int) := by omega
                have j1 : (k : Int) < (L.length : Int) := by omega
                have hw2 : IntKind.i64.wrap ((k : Int) + 1) = (k : Int) + 1 := by rw [IntKind.wrap_i64]; omega
                have HST : Hid (∀ th' : Bool, (th' = true ↔ (th = true ∨ (a = i ∨ b = i ∨ c = i))) → (th' = true ↔ Seen L i r (k + 1))) := by
                  intro th' h'
                  rw [h', Seen.step, HK.out.2, HT.out]
                  simp only
                  constructor
                  · rintro (q | q | q | q)
                    · exact .inl q
                    · exact .inr (.inl (by omega))
                    · exact .inr (.inr (.inl (by omega)))
                    · exact .inr (.inr (.inr (by omega)))
                  · rintro (q | q | q | q)
                    · exact .inl q
                    · exact .inr (.inl (by omega))
                    · exact .inr (.inr (.inl (by omega)))
                    · exact .inr (.inr (.inr (by omega)))
                obtain ⟨a0, a1⟩ := pts_cell HBk.out.lies.pts hal
                obtain ⟨b0, b1⟩ := pts_cell HBk.out.lies.pts hbl
                obtain ⟨c0, c1⟩ := pts_cell HBk.out.lies.pts hcl
                obtain ⟨d0, d1⟩ := pts_cell HBk.out.lies.pts hi'
                have CA : Hid (CdP (ptAt l a) ∧ CdP (ptAt l b) ∧ CdP (ptAt l c) ∧ CdP (ptAt l i)) := ⟨HBk.out.lies.cdAt hal, HBk.out.lies.cdAt hbl, HBk.out.lies.cdAt hcl, HBk.out.lies.cdAt hi'⟩
                have hd : ¬0 < sgn (C (ptAt l a) (ptAt l b) (ptAt l c) (ptAt l i)) := by rw [sgn_pos]; omega
                obtain ⟨pa, ha⟩ : ∃ pa, pa = ptAt l a := ⟨_, rfl⟩
                obtain ⟨pb, hb⟩ : ∃ pb, pb = ptAt l b := ⟨_, rfl⟩
                obtain ⟨pc, hc⟩ : ∃ pc, pc = ptAt l c := ⟨_, rfl⟩
                obtain ⟨pd, hdd⟩ : ∃ pd, pd = ptAt l i := ⟨_, rfl⟩
                rw [← ha] at a0 a1
                rw [← hb] at b0 b1
                rw [← hc] at c0 c1
                rw [← hdd] at d0 d1
                rw [← ha, ← hb, ← hc, ← hdd] at CA hd
                clear ha hb hc hdd hC
                have hd' : ¬0 < sgn (cdet pa.1 pa.2 pb.1 pb.2 pc.1 pc.2 pd.1 pd.2) := hd
                clear hd
                have m0 : (0 : Int) ≤ (a : Int) := by omega
                have m1 : (a : Int) < (l.length : Int) := by omega
                have m2 : (0 : Int) ≤ (b : Int) := by omega
                have m3 : (b : Int) < (l.length : Int) := by omega
                have m4 : (0 : Int) ≤ (c : Int) := by omega
                have m5 : (c : Int) < (l.length : Int) := by omega
                have KS : Hid (∀ X, New wr X → X.cell? ⟨gt, k * 3, none⟩ = some (.int .i64 (a : Int)) ∧ X.cell? ⟨gt, k * 3 + 1, none⟩ = some (.int .i64 (b : Int)) ∧ X.cell? ⟨gt, k * 3 + 2, none⟩ = some (.int .i64 (c : Int)) ∧ X.cell? ⟨g, a * 2, none⟩ = some (.int .i64 pa.1) ∧ X.cell? ⟨g, a * 2 + 1, none⟩ = some (.int .i64 pa.2) ∧ X.cell? ⟨g, b * 2, none⟩ = some (.int .i64 pb.1) ∧ X.cell? ⟨g, b * 2 + 1, none⟩ = some (.int .i64 pb.2) ∧ X.cell? ⟨g, c * 2, none⟩ = some (.int .i64 pc.1) ∧ X.cell? ⟨g, c * 2 + 1, none⟩ = some (.int .i64 pc.2) ∧ X.cell? ⟨g, i * 2, none⟩ = some (.int .i64 pd.1) ∧ X.cell? ⟨g, i * 2 + 1, none⟩ = some (.int .i64 pd.2)) := fun X hX => ⟨hX.kept t0, hX.kept t1, hX.kept t2, hX.kept a0, hX.kept a1, hX.kept b0, hX.kept b1, hX.kept c0, hX.kept c1, hX.kept d0, hX.kept d1⟩
                rcases (show (th = true ∧ True) ∨ (th = false ∧ a = i) ∨ (th = false ∧ a ≠ i ∧ b = i) ∨ (th = false ∧ a ≠ i ∧ b ≠ i ∧ c = i) ∨ (th = false ∧ a ≠ i ∧ b ≠ i ∧ c ≠ i) by cases th <;> simp <;> omega) with ⟨e0, e1⟩ | ⟨e0, e1⟩ | ⟨e0, e1⟩ | ⟨e0, e1⟩ | ⟨e0, e1⟩
                · subst e0
                  have HE : Hid (True) := e1
                  clear e1
                  have CN : Hid (New wr wr.drew) := (New.refl wr).dr
                  go_wp2_with fail
                  go_region_held3 (fun X => X.cell? ⟨gt, k * 3, none⟩ = some (.int .i64 (a : Int)) ∧ X.cell? ⟨gt, k * 3 + 1, none⟩ = some (.int .i64 (b : Int)) ∧ X.cell? ⟨gt, k * 3 + 2, none⟩ = some (.int .i64 (c : Int)) ∧ X.cell? ⟨g, a * 2, none⟩ = some (.int .i64 pa.1) ∧ X.cell? ⟨g, a * 2 + 1, none⟩ = some (.int .i64 pa.2) ∧ X.cell? ⟨g, b * 2, none⟩ = some (.int .i64 pb.1) ∧ X.cell? ⟨g, b * 2 + 1, none⟩ = some (.int .i64 pb.2) ∧ X.cell? ⟨g, c * 2, none⟩ = some (.int .i64 pc.1) ∧ X.cell? ⟨g, c * 2 + 1, none⟩ = some (.int .i64 pc.2) ∧ X.cell? ⟨g, i * 2, none⟩ = some (.int .i64 pd.1) ∧ X.cell? ⟨g, i * 2 + 1, none⟩ = some (.int .i64 pd.2))
                    (exact KS.out _ CN.out)
                    (first | (go_at_call 12; refine (kcircle_any pa.1 pa.2 pb.1 pb.2 pc.1 pc.2 pd.1 pd.2 _ (okB4 CA.out.1 CA.out.2.1 CA.out.2.2.1 CA.out.2.2.2)).mono ?_; rintro e w8 ⟨rfl, H8⟩; replace CN : Hid (New wr w8) := CN.out.trans' H8.out; clear H8))
                  clear a0 a1 b0 b1 c0 c1 d0 d1 t0 t1 t2
                  go_wp2_with fail
                  go_roundw
                  case rel => exact ⟨k + 1, _, by go_num, rfl, by omega, HK.out.1.trans' CN.out, HST.out _ (by have := HE.out; simp; try omega)⟩
                  case measure => simp [intOf]; omega
                · subst e0
                  have qa : ((a : Int) = (i : Int)) = True := eq_true (by omega)
                  have HE : Hid (a = i) := e1
                  clear e1
                  have CN : Hid (New wr wr.drew) := (New.refl wr).dr
                  go_wp2_with fail
                  go_region_held3 (fun X => X.cell? ⟨gt, k * 3, none⟩ = some (.int .i64 (a : Int)) ∧ X.cell? ⟨gt, k * 3 + 1, none⟩ = some (.int .i64 (b : Int)) ∧ X.cell? ⟨gt, k * 3 + 2, none⟩ = some (.int .i64 (c : Int)) ∧ X.cell? ⟨g, a * 2, none⟩ = some (.int .i64 pa.1) ∧ X.cell? ⟨g, a * 2 + 1, none⟩ = some (.int .i64 pa.2) ∧ X.cell? ⟨g, b * 2, none⟩ = some (.int .i64 pb.1) ∧ X.cell? ⟨g, b * 2 + 1, none⟩ = some (.int .i64 pb.2) ∧ X.cell? ⟨g, c * 2, none⟩ = some (.int .i64 pc.1) ∧ X.cell? ⟨g, c * 2 + 1, none⟩ = some (.int .i64 pc.2) ∧ X.cell? ⟨g, i * 2, none⟩ = some (.int .i64 pd.1) ∧ X.cell? ⟨g, i * 2 + 1, none⟩ = some (.int .i64 pd.2))
                    (exact KS.out _ CN.out)
                    (first | (go_at_call 12; refine (kcircle_any pa.1 pa.2 pb.1 pb.2 pc.1 pc.2 pd.1 pd.2 _ (okB4 CA.out.1 CA.out.2.1 CA.out.2.2.1 CA.out.2.2.2)).mono ?_; rintro e w8 ⟨rfl, H8⟩; replace CN : Hid (New wr w8) := CN.out.trans' H8.out; clear H8))
                  clear a0 a1 b0 b1 c0 c1 d0 d1 t0 t1 t2
                  go_wp2_with fail
                  go_roundw
                  case rel => exact ⟨k + 1, _, by go_num, rfl, by omega, HK.out.1.trans' CN.out, HST.out _ (by have := HE.out; simp; try omega)⟩
                  case measure => simp [intOf]; omega
                · subst e0
                  have qa : ((a : Int) = (i : Int)) = False := eq_false (by omega)
                  have qb : ((b : Int) = (i : Int)) = True := eq_true (by omega)
                  have HE : Hid (a ≠ i ∧ b = i) := e1
                  clear e1
                  have CN : Hid (New wr wr.drew) := (New.refl wr).dr
                  go_wp2_with fail
                  go_region_held3 (fun X => X.cell? ⟨gt, k * 3, none⟩ = some (.int .i64 (a : Int)) ∧ X.cell? ⟨gt, k * 3 + 1, none⟩ = some (.int .i64 (b : Int)) ∧ X.cell? ⟨gt, k * 3 + 2, none⟩ = some (.int .i64 (c : Int)) ∧ X.cell? ⟨g, a * 2, none⟩ = some (.int .i64 pa.1) ∧ X.cell? ⟨g, a * 2 + 1, none⟩ = some (.int .i64 pa.2) ∧ X.cell? ⟨g, b * 2, none⟩ = some (.int .i64 pb.1) ∧ X.cell? ⟨g, b * 2 + 1, none⟩ = some (.int .i64 pb.2) ∧ X.cell? ⟨g, c * 2, none⟩ = some (.int .i64 pc.1) ∧ X.cell? ⟨g, c * 2 + 1, none⟩ = some (.int .i64 pc.2) ∧ X.cell? ⟨g, i * 2, none⟩ = some (.int .i64 pd.1) ∧ X.cell? ⟨g, i * 2 + 1, none⟩ = some (.int .i64 pd.2))
                    (exact KS.out _ CN.out)
                    (first | (go_at_call 12; refine (kcircle_any pa.1 pa.2 pb.1 pb.2 pc.1 pc.2 pd.1 pd.2 _ (okB4 CA.out.1 CA.out.2.1 CA.out.2.2.1 CA.out.2.2.2)).mono ?_; rintro e w8 ⟨rfl, H8⟩; replace CN : Hid (New wr w8) := CN.out.trans' H8.out; clear H8))
                  clear a0 a1 b0 b1 c0 c1 d0 d1 t0 t1 t2
                  go_wp2_with fail
                  go_roundw
                  case rel => exact ⟨k + 1, _, by go_num, rfl, by omega, HK.out.1.trans' CN.out, HST.out _ (by have := HE.out; simp; try omega)⟩
                  case measure => simp [intOf]; omega
                · subst e0
                  have qa : ((a : Int) = (i : Int)) = False := eq_false (by omega)
                  have qb : ((b : Int) = (i : Int)) = False := eq_false (by omega)
                  have qc : ((c : Int) = (i : Int)) = True := eq_true (by omega)
                  have HE : Hid (a ≠ i ∧ b ≠ i ∧ c = i) := e1
                  clear e1
                  have CN : Hid (New wr wr.drew) := (New.refl wr).dr
                  go_wp2_with fail
                  go_region_held3 (fun X => X.cell? ⟨gt, k * 3, none⟩ = some (.int .i64 (a : Int)) ∧ X.cell? ⟨gt, k * 3 + 1, none⟩ = some (.int .i64 (b : Int)) ∧ X.cell? ⟨gt, k * 3 + 2, none⟩ = some (.int .i64 (c : Int)) ∧ X.cell? ⟨g, a * 2, none⟩ = some (.int .i64 pa.1) ∧ X.cell? ⟨g, a * 2 + 1, none⟩ = some (.int .i64 pa.2) ∧ X.cell? ⟨g, b * 2, none⟩ = some (.int .i64 pb.1) ∧ X.cell? ⟨g, b * 2 + 1, none⟩ = some (.int .i64 pb.2) ∧ X.cell? ⟨g, c * 2, none⟩ = some (.int .i64 pc.1) ∧ X.cell? ⟨g, c * 2 + 1, none⟩ = some (.int .i64 pc.2) ∧ X.cell? ⟨g, i * 2, none⟩ = some (.int .i64 pd.1) ∧ X.cell? ⟨g, i * 2 + 1, none⟩ = some (.int .i64 pd.2))
                    (exact KS.out _ CN.out)
                    (first | (go_at_call 12; refine (kcircle_any pa.1 pa.2 pb.1 pb.2 pc.1 pc.2 pd.1 pd.2 _ (okB4 CA.out.1 CA.out.2.1 CA.out.2.2.1 CA.out.2.2.2)).mono ?_; rintro e w8 ⟨rfl, H8⟩; replace CN : Hid (New wr w8) := CN.out.trans' H8.out; clear H8))
                  clear a0 a1 b0 b1 c0 c1 d0 d1 t0 t1 t2
                  go_wp2_with fail
                  go_roundw
                  case rel => exact ⟨k + 1, _, by go_num, rfl, by omega, HK.out.1.trans' CN.out, HST.out _ (by have := HE.out; simp; try omega)⟩
                  case measure => simp [intOf]; omega
                · subst e0
                  have qa : ((a : Int) = (i : Int)) = False := eq_false (by omega)
                  have qb : ((b : Int) = (i : Int)) = False := eq_false (by omega)
                  have qc : ((c : Int) = (i : Int)) = False := eq_false (by omega)
                  have HE : Hid (a ≠ i ∧ b ≠ i ∧ c ≠ i) := e1
                  clear e1
                  have CN : Hid (New wr wr.drew) := (New.refl wr).dr
                  go_wp2_with fail
                  go_region_held3 (fun X => X.cell? ⟨gt, k * 3, none⟩ = some (.int .i64 (a : Int)) ∧ X.cell? ⟨gt, k * 3 + 1, none⟩ = some (.int .i64 (b : Int)) ∧ X.cell? ⟨gt, k * 3 + 2, none⟩ = some (.int .i64 (c : Int)) ∧ X.cell? ⟨g, a * 2, none⟩ = some (.int .i64 pa.1) ∧ X.cell? ⟨g, a * 2 + 1, none⟩ = some (.int .i64 pa.2) ∧ X.cell? ⟨g, b * 2, none⟩ = some (.int .i64 pb.1) ∧ X.cell? ⟨g, b * 2 + 1, none⟩ = some (.int .i64 pb.2) ∧ X.cell? ⟨g, c * 2, none⟩ = some (.int .i64 pc.1) ∧ X.cell? ⟨g, c * 2 + 1, none⟩ = some (.int .i64 pc.2) ∧ X.cell? ⟨g, i * 2, none⟩ = some (.int .i64 pd.1) ∧ X.cell? ⟨g, i * 2 + 1, none⟩ = some (.int .i64 pd.2))
                    (exact KS.out _ CN.out)
                    (first | (go_at_call 12; refine (kcircle_any pa.1 pa.2 pb.1 pb.2 pc.1 pc.2 pd.1 pd.2 _ (okB4 CA.out.1 CA.out.2.1 CA.out.2.2.1 CA.out.2.2.2)).mono ?_; rintro e w8 ⟨rfl, H8⟩; replace CN : Hid (New wr w8) := CN.out.trans' H8.out; clear H8))
                  clear a0 a1 b0 b1 c0 c1 d0 d1 t0 t1 t2
                  go_wp2_with fail
                  go_roundw
                  case rel => exact ⟨k + 1, _, by go_num, rfl, by omega, HK.out.1.trans' CN.out, HST.out _ (by have := HE.out; simp; try omega)⟩
                  case measure => simp [intOf]; omega
              · have hk3 : k = L.length := by omega
                have hth1 : th = true := by
                  rw [HK.out.2]
                  by_cases e : r = i
                  · right
                    have h7 := H7.out
                    rw [e] at h7
                    obtain ⟨t, ht, hcor⟩ := HB.out.good.corner HNF.out i hi' h7.2.2.1
                    obtain ⟨j, hj⟩ := List.mem_iff_getElem?.1 ht
                    obtain ⟨hjl, hje⟩ := List.getElem?_eq_some_iff.1 hj
                    refine ⟨j, by omega, ?_⟩
                    rw [triN_eq hjl, hje]
                    exact hcor
                  · exact .inl e
                subst hk3
                subst hth1
                go_wp2_with fail
                go_roundw
                case rel => exact ⟨i + 1, by go_num, by omega, HN7.out.trans' HK.out.1⟩
                case measure => simp [intOf]; omega
          · go_wp2_with fail
            go_ret
            exact ⟨rfl, HG.out.2.2.2.2.trans' HR.out⟩

end Go.Proofs.YtgeoffpcmkofkaaGreat
