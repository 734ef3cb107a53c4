/- The walks of 'Of' of package mesh and of 'Triangulate'. -/
import Derived.Test.YtgeoffpcmkofkaaGreatRm
namespace Go.Proofs.YtgeoffpcmkofkaaGreat
open Go.RowKit Go.Maps Fl
set_option maxRecDepth 100000
attribute [local go_sem ↓] Go.wp_at_zero Go.wp_at_succ

theorem sweep_nil (w : World) : Calls Tryz.prog 26 #[.slice none 0 0] w fun e w' => ∃ b, e = .returned (.map (some b)) ∧ Hid (New w w' ∧ w.heap.size ≤ b ∧ MapE w' b 1000000000 (fun _ => none)) := by
  have hmm := @run_makeMap Tryz.prog 51 w
  go_enter Tryz.func26, Tryz.ntmps26
  go_wp2_with fail
  refine (inLine_nil _).mono ?_
  rintro e w1 ⟨rfl, H1⟩
  go_wp2_with fail
  go_ret
  exact ⟨_, rfl, (New.alloc _ _).trans' H1.out, Nat.le_refl _, ((mapE_made w).new H1.out).mono (by omega)⟩

theorem sweep_own (base : Nat) (v : Value) (s : Pts) (w : World) (h : OwnP w base v s) (hr : Rising s) (hc : ∀ x ∈ s, CdP x) (h40 : s.length ≤ 40) :
    Calls Tryz.prog 26 #[v] w fun e w' => ∃ b, e = .returned (.map (some b)) ∧ Hid (New w w' ∧ w.heap.size ≤ b ∧ MapE w' b 1000000000 (meshOf s)) := by
  rcases h.form with ⟨e1, e2⟩ | ⟨g, cap, e1, _, hg, hlc, _⟩
  · subst e1 e2
    have e : meshOf [] = fun _ => none := by
      obtain ⟨n, hn⟩ := line_exists []
      rcases meshOf_ok hn hr with k | k
      · exact k.2
      · have := k.1; simp at this
    rw [e]
    exact sweep_nil w
  · subst e1
    exact sweep_some base g cap s.length s w rfl h hg hr hc h40 hlc

set_option maxHeartbeats 1600000 in
/-- 'Of', over any slice of which these two calls know what lies there. -/
theorem of_gen (v0 : Value) (l : Pts) (w : World) (hD : Calls Tryz.prog 27 #[v0] w fun e w' => ∃ v s, e = .returned v ∧ Hid (IsDis l s ∧ New w w' ∧ OwnP w' w.heap.size v s))
    (hF : ∀ W, New w W → Calls Tryz.prog 30 #[v0] W fun e w' => ∃ b, e = .returned (.map (some b)) ∧ Hid (New W w' ∧ W.heap.size ≤ b ∧ MapI w' b l.length (numN l l.length)))
    (h0 : errL l = 0) :
    Calls Tryz.prog 19 #[v0] w fun e w' => ∃ v, e = .returned v ∧ Hid (New w w' ∧ Answer l (triOf l) ∧ OwnT w' w.heap.size v (triOf l)) := by
  have H : Hid ((Calls Tryz.prog 27 #[v0] w fun e w' => ∃ v s, e = .returned v ∧ Hid (IsDis l s ∧ New w w' ∧ OwnP w' w.heap.size v s)) ∧
    (∀ W, New w W → Calls Tryz.prog 30 #[v0] W fun e w' => ∃ b, e = .returned (.map (some b)) ∧ Hid (New W w' ∧ W.heap.size ≤ b ∧ MapI w' b l.length (numN l l.length))) ∧ errL l = 0 ∧ l.length ≤ 40 ∧ (∀ x ∈ l, CdP x)) :=
    ⟨hD, hF, h0, (errL_ok h0).1, fun x hx => okB_cd (errL_ok h0).2 hx⟩
  clear hD hF h0
  go_enter Tryz.func19, Tryz.ntmps19
  go_wp2_with fail
  refine H.out.1.mono ?_
  rintro e w1 ⟨v1, s, rfl, H1⟩
  have HS : Hid (Rising s ∧ (∀ x ∈ s, CdP x) ∧ s.length ≤ 40) := ⟨H1.out.1.rising, fun x hx => H.out.2.2.2.2 x ((H1.out.1.mem x).1 hx), Nat.le_trans H1.out.1.len H.out.2.2.2.1⟩
  go_wp2_with fail
  refine (sweep_own w.heap.size v1 s w1 H1.out.2.2 HS.out.1 HS.out.2.1 HS.out.2.2).mono ?_
  rintro e w2 ⟨b, rfl, H2⟩
  go_wp2_with fail
  refine (settle_any b s (meshOf s) w2 H2.out.2.2 (meshOf_is s HS.out.1) HS.out.1 HS.out.2.1 HS.out.2.2).mono ?_
  rintro e w3 ⟨rfl, H3⟩
  have N3 : Hid (New w w3 ∧ w.heap.size ≤ b) := by
    have h1 := H1.out.2.1.size
    have h2 := H2.out.2.1
    exact ⟨(H1.out.2.1.trans' H2.out.1).own H3.out.2 (by omega), by omega⟩
  go_wp2_with fail
  refine (H.out.2.1 w3 N3.out.1).mono ?_
  rintro e w4 ⟨bn, rfl, H4⟩
  have HOK : Hid (Ok s (settledM s (meshOf s))) := settled_is s HS.out.1
  go_wp2_with fail
  refine (triangles_any b 1010000000 bn l.length (settledM s (meshOf s)) (numN l l.length) w4 (pairs s) (H3.out.1.new H4.out.1) H4.out.2.2 (HOK.out.vals HS.out.2.1)
    (fun e he => by obtain ⟨c, hc⟩ := isSome_get he; have := HOK.out.mem e.1 e.2 c hc; exact mem_pairs.2 ⟨this.1, this.2.1⟩)
    (by rw [pairs_length]; have := Nat.mul_le_mul HS.out.2.2 HS.out.2.2; omega)
    (fun e f c d he hf k1 k2 => by
      have m1 := HOK.out.mem e.1 e.2 c he
      have m2 := HOK.out.mem f.1 f.2 d hf
      have q1 := nr_inj ((H1.out.1.mem _).1 m1.1) ((H1.out.1.mem _).1 m2.1) k1
      have q2 := nr_inj ((H1.out.1.mem _).1 m1.2.1) ((H1.out.1.mem _).1 m2.2.1) k2
      exact Prod.ext q1 q2)).mono ?_
  rintro e w5 ⟨v5, L, rfl, H5⟩
  go_wp2_with fail
  go_ret
  have hA : Answer l L := ⟨s, H1.out.1, H5.out.2.1⟩
  have hT := triOf_eq H.out.2.2.1 hA
  have h4 : w.heap.size ≤ w4.heap.size := Nat.le_trans N3.out.1.size H4.out.1.size
  rw [hT]
  exact ⟨v5, rfl, N3.out.1.trans' (H4.out.1.trans' H5.out.1), hA, H5.out.2.2.1, H5.out.2.2.2.imp id fun ⟨g, cap, cur, a1, a2, a3⟩ => ⟨g, cap, cur, a1, by omega, a3⟩⟩

set_option maxHeartbeats 800000 in
/-- checkPoints, at lists that are not too long. -/
theorem checkPoints_len (g off cap : Nat) (l : Pts) (w : World) (h : PtsAt w g off l) (hg : g < w.heap.size) (hs : l.length ≤ 100000000000000) :
    Calls Tryz.prog 23 #[.slice (some ⟨g, off, none⟩) l.length cap] w fun e w' => e = .returned (.int .i64 (okE l)) ∧ Hid (New w w') := by
  go_enter Tryz.func23, Tryz.ntmps23
  go_wp2_with fail
  go_loopw [7] (fun i wr => ∃ k : Nat, i = .int .i64 k ∧ k ≤ l.length ∧ Hid (New w wr ∧ okB (l.take k) = true))
    (fun i _ => l.length - (intOf i).toNat)
  case atStart => exact ⟨0, rfl, Nat.zero_le _, New.refl _, rfl⟩
  case round =>
    obtain ⟨k, rfl, hle, H⟩ := hrel
    by_cases hk : k < l.length
    · have hc1 := ((h.kept hg H.out.1) k hk).1
      have hc2 := ((h.kept hg H.out.1) k hk).2
      go_wp2_with fail
      refine (isCoord_any l[k].1 _).mono ?_
      rintro e w1 ⟨rfl, rfl⟩
      cases hb1 : cdB l[k].1 with
      | false =>
        go_wp2_with fail
        go_ret
        exact ⟨by rw [okE, okB_bad hk (Or.inl hb1)]; rfl, H.out.1.alloc' _⟩
      | true =>
        go_wp2_with fail
        refine (isCoord_any l[k].2 _).mono ?_
        rintro e w1 ⟨rfl, rfl⟩
        cases hb2 : cdB l[k].2 with
        | false =>
          go_wp2_with fail
          go_ret
          exact ⟨by rw [okE, okB_bad hk (Or.inr hb2)]; rfl, H.out.1.alloc' _⟩
        | true =>
          go_wp2_with fail
          go_roundw
          case rel => exact ⟨k + 1, by go_num, hk, H.out.1.alloc' _, okB_take hk H.out.2 hb1 hb2⟩
          case measure => simp [intOf]; omega
    · have hk2 : k = l.length := by omega
      subst hk2
      have hok : okB l = true := by have := H.out.2; rwa [List.take_length] at this
      have HO : Hid (okB l = true) := hok
      clear hok
      go_wp2_with fail
      go_ret
      exact ⟨by rw [okE, HO.out]; rfl, H.out.1⟩

set_option maxHeartbeats 800000 in
theorem checkList_len (ao : Option Addr) (cap : Nat) (l : Pts) (w : World) (h : PolyAt w ao l) :
    Calls Tryz.prog 18 #[.slice ao l.length cap] w fun e w' => e = .returned (.int .i64 (errL l)) ∧ Hid (New w w') := by
  by_cases h40 : 40 < l.length
  · have HE : Hid (errL l = 2) := by rw [Hid, errL, if_pos h40]
    go_enter Tryz.func18, Tryz.ntmps18
    go_wp2_with fail
    go_ret
    exact ⟨by rw [HE.out]; rfl, New.refl _⟩
  · have HE : Hid (errL l = okE l) := by rw [Hid, errL, if_neg h40]
    have HC : Hid (∀ W, New w W → Calls Tryz.prog 23 #[.slice ao l.length cap] W fun e w' => e = .returned (.int .i64 (okE l)) ∧ Hid (New W w')) := by
      intro W hW
      match l, h with
      | [], _ => exact checkPoints_none ao cap W
      | q :: l, h =>
        obtain ⟨g, off, rfl, h1, h2⟩ := h (by simp)
        exact checkPoints_len g off cap (q :: l) W (h1.kept h2 hW) (Nat.lt_of_lt_of_le h2 hW.size) (by omega)
    clear h
    go_enter Tryz.func18, Tryz.ntmps18
    go_wp2_with fail
    refine (HC.out _ (New.refl w)).mono ?_
    rintro e w1 ⟨rfl, H1⟩
    go_wp2_with fail
    go_ret
    exact ⟨by rw [HE.out]; rfl, H1⟩

set_option maxHeartbeats 800000 in
theorem tri_some (g cap : Nat) (l : Pts) (w : World) (hp : PtsAt w g 0 l) (hg : g < w.heap.size) :
    Calls Tryz.prog 7 #[.slice (some ⟨g, 0, none⟩) l.length cap] w fun e w' => ∃ v, e = .returned (.tuple #[v, .int .i64 (errL l)]) ∧ Hid (New w w' ∧ (errL l = 0 → Answer l (triOf l)) ∧ OwnT w' w.heap.size v (triOf l)) := by
  have HP : Hid (PtsAt w g 0 l ∧ g < w.heap.size) := ⟨hp, hg⟩
  clear hp hg
  go_enter Tryz.func7, Tryz.ntmps7
  go_wp2_with fail
  refine (checkList_len (some ⟨g, 0, none⟩) cap l _ (fun _ => ⟨g, 0, rfl, HP.out.1, HP.out.2⟩)).mono ?_
  rintro e w1 ⟨rfl, H1⟩
  by_cases h0 : errL l = 0
  · have HE : Hid (errL l = 0) := h0
    have HC : Hid (Calls Tryz.prog 19 #[.slice (some ⟨g, 0, none⟩) l.length cap] w1 fun e w' => ∃ v, e = .returned v ∧ Hid (New w1 w' ∧ Answer l (triOf l) ∧ OwnT w' w1.heap.size v (triOf l))) := by
      have h1 := HP.out.1.kept HP.out.2 H1.out
      have h2 := Nat.lt_of_lt_of_le HP.out.2 H1.out.size
      have h3 := errL_ok h0
      have h4 : ∀ x ∈ l, CdP x := fun x hx => okB_cd h3.2 hx
      exact of_gen _ l w1 (distinct_some g cap l w1 h1 (by omega) h4) (fun W hW => first_some g cap l W (h1.kept h2 hW) (Nat.lt_of_lt_of_le h2 hW.size) (by omega) h4) h0
    rw [h0]
    go_wp2_with fail
    refine HC.out.mono ?_
    rintro e w2 ⟨v, rfl, H2⟩
    go_wp2_with fail
    go_ret2
    have hs := H1.out.size
    exact ⟨v, by rw [HE.out]; rfl, H1.out.trans' H2.out.1, fun _ => H2.out.2.1, H2.out.2.2.1, H2.out.2.2.2.imp id fun ⟨g, cap, cur, a1, a2, a3⟩ => ⟨g, cap, cur, a1, by omega, a3⟩⟩
  · have HE : Hid (errL l ≠ 0) := h0
    go_wp2_with fail
    go_ret2
    refine ⟨_, rfl, H1.out, fun h => absurd h HE.out, ?_⟩
    rw [triOf_bad HE.out]
    exact World.ownsRow_nil _ _ _ _

set_option maxHeartbeats 800000 in
theorem tri_nil (w : World) :
    Calls Tryz.prog 7 #[.slice none 0 0] w fun e w' => ∃ v, e = .returned (.tuple #[v, .int .i64 0]) ∧ Hid (New w w' ∧ Answer [] (triOf []) ∧ OwnT w' w.heap.size v (triOf [])) := by
  have h0 : errL [] = 0 := rfl
  go_enter Tryz.func7, Tryz.ntmps7
  go_wp2_with fail
  refine (checkList_len none 0 [] _ (fun h => by simp at h)).mono ?_
  rintro e w1 ⟨rfl, H1⟩
  have HC : Hid (Calls Tryz.prog 19 #[.slice none 0 0] w1 fun e w' => ∃ v, e = .returned v ∧ Hid (New w1 w' ∧ Answer [] (triOf []) ∧ OwnT w' w1.heap.size v (triOf []))) := by
    refine of_gen _ [] w1 ((distinct_nil w1).mono ?_) (fun W hW => first_nil W) h0
    rintro e w2 ⟨rfl, h2⟩
    exact ⟨_, [], rfl, ⟨fun i j x y h => by simp at h, fun x => Iff.rfl, Nat.le_refl _⟩, h2.out, World.ownsRow_nil _ _ _ _⟩
  rw [h0]
  go_wp2_with fail
  refine HC.out.mono ?_
  rintro e w2 ⟨v, rfl, H2⟩
  go_wp2_with fail
  go_ret2
  have hs := H1.out.size
  exact ⟨v, rfl, H1.out.trans' H2.out.1, H2.out.2.1, H2.out.2.2.1, H2.out.2.2.2.imp id fun ⟨g, cap, cur, a1, a2, a3⟩ => ⟨g, cap, cur, a1, by omega, a3⟩⟩

end Go.Proofs.YtgeoffpcmkofkaaGreat
