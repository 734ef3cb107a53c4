/- Rn; Za; Zb: texts laid into one. -/
import Derived.Test.YtgeoffpcmkofkaaGreatQam
import Derived.Test.YtgeoffpcmkofkaaGreatQaf
/- The walks of 'Of' of package mesh and of 'Triangulate'. -/
namespace Go.Proofs.YtgeoffpcmkofkaaGreat
open Go.RowKit Go.Maps Fl
set_option maxRecDepth 100000
attribute [local go_sem ↓] Go.wp_at_zero Go.wp_at_succ

theorem sweep_nil (w : World) : Calls Tryz.prog 26 #[.slice none 0 0] w fun e w' => ∃ b, e = .returned (.map (some b)) ∧ Hid (New w w' ∧ w.heap.size ≤ b ∧ MapE w' b 1000000000 (fun _ => none)) := by
  have hmm := @run_makeMap Tryz.prog 51 w
  go_enter Tryz.func26, Tryz.ntmps26
  go_wp2_with fail
  refine (inLine_nil _).mono ?_
  rintro e w1 ⟨rfl, H1⟩
  go_wp2_with fail
  go_ret
  exact ⟨_, rfl, (New.alloc _ _).trans' H1.out, Nat.le_refl _, ((mapE_made w).new H1.out).mono (by omega)⟩

theorem sweep_own (base : Nat) (v : Value) (s : Pts) (w : World) (h : OwnP w base v s) (hr : Rising s) (hc : ∀ x ∈ s, CdP x) (h40 : s.length ≤ 40) :
    Calls Tryz.prog 26 #[v] w fun e w' => ∃ b, e = .returned (.map (some b)) ∧ Hid (New w w' ∧ w.heap.size ≤ b ∧ MapE w' b 1000000000 (meshOf s)) := by
  rcases h.form with ⟨e1, e2⟩ | ⟨g, cap, e1, _, hg, hlc, _⟩
  · subst e1 e2
    have e : meshOf [] = fun _ => none := by
      obtain ⟨n, hn⟩ := line_exists []
      rcases meshOf_ok hn hr with k | k
      · exact k.2
      · have := k.1; simp at this
    rw [e]
    exact sweep_nil w
  · subst e1
    exact sweep_some base g cap s.length s w rfl h hg hr hc h40 hlc

set_option maxHeartbeats 1600000 in
/-- 'Of', over any slice of which these two calls know what lies there. -/
theorem of_gen (v0 : Value) (l : Pts) (w : World) (hD : Calls Tryz.prog 27 #[v0] w fun e w' => ∃ v s, e = .returned v ∧ Hid (IsDis l s ∧ New w w' ∧ OwnP w' w.heap.size v s))
    (hF : ∀ W, New w W → Calls Tryz.prog 30 #[v0] W fun e w' => ∃ b, e = .returned (.map (some b)) ∧ Hid (New W w' ∧ W.heap.size ≤ b ∧ MapI w' b l.length (numN l l.length)))
    (h0 : errL l = 0) :
    Calls Tryz.prog 19 #[v0] w fun e w' => ∃ v, e = .returned v ∧ Hid (New w w' ∧ Answer l (triOf l) ∧ OwnT w' w.heap.size v (triOf l)) := by
  have H : Hid ((Calls Tryz.prog 27 #[v0] w fun e w' => ∃ v s, e = .returned v ∧ Hid (IsDis l s ∧ New w w' ∧ OwnP w' w.heap.size v s)) ∧
    (∀ W, New w W → Calls Tryz.prog 30 #[v0] W fun e w' => ∃ b, e = .returned (.map (some b)) ∧ Hid (New W w' ∧ W.heap.size ≤ b ∧ MapI w' b l.length (numN l l.length))) ∧ errL l = 0 ∧ l.length ≤ 40 ∧ (∀ x ∈ l, CdP x)) :=
    ⟨hD, hF, h0, (errL_ok h0).1, fun x hx => okB_cd (errL_ok h0).2 hx⟩
  clear hD hF h0
  go_enter Tryz.func19, Tryz.ntmps19
  go_wp2_with fail
  refine H.out.1.mono ?_
  rintro e w1 ⟨v1, s, rfl, H1⟩
  have HS : Hid (Rising s ∧ (∀ x ∈ s, CdP x) ∧ s.length ≤ 40) := ⟨H1.out.1.rising, fun x hx => H.out.2.2.2.2 x ((H1.out.1.mem x).1 hx), Nat.le_trans H1.out.1.len H.out.2.2.2.1⟩
  go_wp2_with fail
  refine (sweep_own w.heap.size v1 s w1 H1.out.2.2 HS.out.1 HS.out.2.1 HS.out.2.2).mono ?_
  rintro e w2 ⟨b, rfl, H2⟩
  go_wp2_with fail
  refine (settle_any b s (meshOf s) w2 H2.out.2.2 (meshOf_is s HS.out.1) HS.out.1 HS.out.2.1 HS.out.2.2).mono ?_
  rintro e w3 ⟨rfl, H3⟩
  have N3 : Hid (New w w3 ∧ w.heap.size ≤ b) := by
    have h1 := H1.out.2.1.size
    have h2 := H2.out.2.1
    exact ⟨(H1.out.2.1.trans' H2.out.1).own H3.out.2 (by omega), by omega⟩
  go_wp2_with fail
  refine (H.out.2.1 w3 N3.out.1).mono ?_
  rintro e w4 ⟨bn, rfl, H4⟩
  have HOK : Hid (Ok s (settledM s (meshOf s))) := settled_is s HS.out.1
  go_wp2_with fail
  refine (triangles_any b 1010000000 bn l.length (settledM s (meshOf s)) (numN l l.length) w4 (pairs s) (H3.out.1.new H4.out.1) H4.out.2.2 (HOK.out.vals HS.out.2.1)
    (fun e he => by obtain ⟨c, hc⟩ := isSome_get he; have := HOK.out.mem e.1 e.2 c hc; exact mem_pairs.2 ⟨this.1, this.2.1⟩)
    (by rw [pairs_length]; have := Nat.mul_le_mul HS.out.2.2 HS.out.2.2; omega)
    (fun e f c d he hf k1 k2 => by
      have m1 := HOK.out.mem e.1 e.2 c he
      have m2 := HOK.out.mem f.1 f.2 d hf
      have q1 := nr_inj ((H1.out.1.mem _).1 m1.1) ((H1.out.1.mem _).1 m2.1) k1
      have q2 := nr_inj ((H1.out.1.mem _).1 m1.2.1) ((H1.out.1.mem _).1 m2.2.1) k2
      exact Prod.ext q1 q2)).mono ?_
  rintro e w5 ⟨v5, L, rfl, H5⟩
  go_wp2_with fail
  go_ret
  have hA : Answer l L := ⟨s, H1.out.1, H5.out.2.1⟩
  have hT := triOf_eq H.out.2.2.1 hA
  have h4 : w.heap.size ≤ w4.heap.size := Nat.le_trans N3.out.1.size H4.out.1.size
  rw [hT]
  exact ⟨v5, rfl, N3.out.1.trans' (H4.out.1.trans' H5.out.1), hA, H5.out.2.2.1, H5.out.2.2.2.imp id fun ⟨g, cap, cur, a1, a2, a3⟩ => ⟨g, cap, cur, a1, by omega, a3⟩⟩

set_option maxHeartbeats 800000 in
/-- checkPoints, at lists that are not too long. -/
theorem checkPoints_len (g off cap : Nat) (l : Pts) (w : World) (h : PtsAt w g off l) (hg : g < w.heap.size) (hs : l.length ≤ 100000000000000) :
    Calls Tryz.prog 23 #[.slice (some ⟨g, off, none⟩) l.length cap] w fun e w' => e = .returned (.int .i64 (okE l)) ∧ Hid (New w w') := by
  go_enter Tryz.func23, Tryz.ntmps23
  go_wp2_with fail
  go_loopw [7] (fun i wr => ∃ k : Nat, i = .int .i64 k ∧ k ≤ l.length ∧ Hid (New w wr ∧ okB (l.take k) = true))
    (fun i _ => l.length - (intOf i).toNat)
  case atStart => exact ⟨0, rfl, Nat.zero_le _, New.refl _, rfl⟩
  case round =>
    obtain ⟨k, rfl, hle, H⟩ := hrel
    by_cases hk : k < l.length
    · have hc1 := ((h.kept hg H.out.1) k hk).1
      have hc2 := ((h.kept hg H.out.1) k hk).2
      go_wp2_with fail
      refine (isCoord_any l[k].1 _).mono ?_
      rintro e w1 ⟨rfl, rfl⟩
      cases hb1 : cdB l[k].1 with
      | false =>
        go_wp2_with fail
        go_ret
        exact ⟨by rw [okE, okB_bad hk (Or.inl hb1)]; rfl, H.out.1.alloc' _⟩
      | true =>
        go_wp2_with fail
        refine (isCoord_any l[k].2 _).mono ?_
        rintro e w1 ⟨rfl, rfl⟩
        cases hb2 : cdB l[k].2 with
        | false =>
          go_wp2_with fail
          go_ret
          exact ⟨by rw [okE, okB_bad hk (Or.inr hb2)]; rfl, H.out.1.alloc' _⟩
        | true =>
          go_wp2_with fail
          go_roundw
          case rel => exact ⟨k + 1, by go_num, hk, H.out.1.alloc' _, okB_take hk H.out.2 hb1 hb2⟩
          case measure => simp [intOf]; omega
    · have hk2 : k = l.length := by omega
      subst hk2
      have hok : okB l = true := by have := H.out.2; rwa [List.take_length] at this
      have HO : Hid (okB l = true) := hok
      clear hok
      go_wp2_with fail
      go_ret
      exact ⟨by rw [okE, HO.out]; rfl, H.out.1⟩

set_option maxHeartbeats 800000 in
theorem checkList_len (ao : Option Addr) (cap : Nat) (l : Pts) (w : World) (h : PolyAt w ao l) :
    Calls Tryz.prog 18 #[.slice ao l.length cap] w fun e w' => e = .returned (.int .i64 (errL l)) ∧ Hid (New w w') := by
  by_cases h40 : 40 < l.length
  · have HE : Hid (errL l = 2) := by rw [Hid, errL, if_pos h40]
    go_enter Tryz.func18, Tryz.ntmps18
    go_wp2_with fail
    go_ret
    exact ⟨by rw [HE.out]; rfl, New.refl _⟩
  · have HE : Hid (errL l = okE l) := by rw [Hid, errL, if_neg h40]
    have HC : Hid (∀ W, New w W → Calls Tryz.prog 23 #[.slice ao l.length cap] W fun e w' => e = .returned (.int .i64 (okE l)) ∧ Hid (New W w')) := by
      intro W hW
      match l, h with
      | [], _ => exact checkPoints_none ao cap W
      | q :: l, h =>
        obtain ⟨g, off, rfl, h1, h2⟩ := h (by simp)
        exact checkPoints_len g off cap (q :: l) W (h1.kept h2 hW) (Nat.lt_of_lt_of_le h2 hW.size) (by omega)
    clear h
    go_enter Tryz.func18, Tryz.ntmps18
    go_wp2_with fail
    refine (HC.out _ (New.refl w)).mono ?_
    rintro e w1 ⟨rfl, H1⟩
    go_wp2_with fail
    go_ret
    exact ⟨by rw [HE.out]; rfl, H1⟩

set_option maxHeartbeats 800000 in
theorem tri_some (g cap : Nat) (l : Pts) (w : World) (hp : PtsAt w g 0 l) (hg : g < w.heap.size) :
    Calls Tryz.prog 7 #[.slice (some ⟨g, 0, none⟩) l.length cap] w fun e w' => ∃ v, e = .returned (.tuple #[v, .int .i64 (errL l)]) ∧ Hid (New w w' ∧ (errL l = 0 → Answer l (triOf l)) ∧ OwnT w' w.heap.size v (triOf l)) := by
  have HP : Hid (PtsAt w g 0 l ∧ g < w.heap.size) := ⟨hp, hg⟩
  clear hp hg
  go_enter Tryz.func7, Tryz.ntmps7
  go_wp2_with fail
  refine (checkList_len (some ⟨g, 0, none⟩) cap l _ (fun _ => ⟨g, 0, rfl, HP.out.1, HP.out.2⟩)).mono ?_
  rintro e w1 ⟨rfl, H1⟩
  by_cases h0 : errL l = 0
  · have HE : Hid (errL l = 0) := h0
    have HC : Hid (Calls Tryz.prog 19 #[.slice (some ⟨g, 0, none⟩) l.length cap] w1 fun e w' => ∃ v, e = .returned v ∧ Hid (New w1 w' ∧ Answer l (triOf l) ∧ OwnT w' w1.heap.size v (triOf l))) := by
      have h1 := HP.out.1.kept HP.out.2 H1.out
      have h2 := Nat.lt_of_lt_of_le HP.out.2 H1.out.size
      have h3 := errL_ok h0
      have h4 : ∀ x ∈ l, CdP x := fun x hx => okB_cd h3.2 hx
      exact of_gen _ l w1 (distinct_some g cap l w1 h1 (by omega) h4) (fun W hW => first_some g cap l W (h1.kept h2 hW) (Nat.lt_of_lt_of_le h2 hW.size) (by omega) h4) h0
    rw [h0]
    go_wp2_with fail
    refine HC.out.mono ?_
    rintro e w2 ⟨v, rfl, H2⟩
    go_wp2_with fail
    go_ret2
    have hs := H1.out.size
    exact ⟨v, by rw [HE.out]; rfl, H1.out.trans' H2.out.1, fun _ => H2.out.2.1, H2.out.2.2.1, H2.out.2.2.2.imp id fun ⟨g, cap, cur, a1, a2, a3⟩ => ⟨g, cap, cur, a1, by omega, a3⟩⟩
  · have HE : Hid (errL l ≠ 0) := h0
    go_wp2_with fail
    go_ret2
    refine ⟨_, rfl, H1.out, fun h => absurd h HE.out, ?_⟩
    rw [triOf_bad HE.out]
    exact World.ownsRow_nil _ _ _ _

set_option maxHeartbeats 800000 in
theorem tri_nil (w : World) :
    Calls Tryz.prog 7 #[.slice none 0 0] w fun e w' => ∃ v, e = .returned (.tuple #[v, .int .i64 0]) ∧ Hid (New w w' ∧ Answer [] (triOf []) ∧ OwnT w' w.heap.size v (triOf [])) := by
  have h0 : errL [] = 0 := rfl
  go_enter Tryz.func7, Tryz.ntmps7
  go_wp2_with fail
  refine (checkList_len none 0 [] _ (fun h => by simp at h)).mono ?_
  rintro e w1 ⟨rfl, H1⟩
  have HC : Hid (Calls Tryz.prog 19 #[.slice none 0 0] w1 fun e w' => ∃ v, e = .returned v ∧ Hid (New w1 w' ∧ Answer [] (triOf []) ∧ OwnT w' w1.heap.size v (triOf []))) := by
    refine of_gen _ [] w1 ((distinct_nil w1).mono ?_) (fun W hW => first_nil W) h0
    rintro e w2 ⟨rfl, h2⟩
    exact ⟨_, [], rfl, ⟨fun i j x y h => by simp at h, fun x => Iff.rfl, Nat.le_refl _⟩, h2.out, World.ownsRow_nil _ _ _ _⟩
  rw [h0]
  go_wp2_with fail
  refine HC.out.mono ?_
  rintro e w2 ⟨v, rfl, H2⟩
  go_wp2_with fail
  go_ret2
  have hs := H1.out.size
  exact ⟨v, rfl, H1.out.trans' H2.out.1, H2.out.2.1, H2.out.2.2.1, H2.out.2.2.2.imp id fun ⟨g, cap, cur, a1, a2, a3⟩ => ⟨g, cap, cur, a1, by omega, a3⟩⟩

end Go.Proofs.YtgeoffpcmkofkaaGreat
/- The walk of the law 'Same', over whatever Triangulate answers, if it is new memory and hangs on the points alone. -/
namespace Go.Proofs.YtgeoffpcmkofkaaGreat
open Go.RowKit Fl
set_option maxRecDepth 100000
attribute [local go_sem ↓] Go.wp_at_zero Go.wp_at_succ

abbrev Tri := Int × Int × Int
def flatT : List Tri → List Value
  | [] => []
  | t :: l => .int .i64 t.1 :: .int .i64 t.2.1 :: .int .i64 t.2.2 :: flatT l

/-- What is asked of Triangulate. -/
structure TriSays (T : Pts → List Tri) : Prop where
  len : ∀ l, (T l).length ≤ 1000000
  bad : ∀ l, errL l ≠ 0 → T l = []
  call : ∀ (g cap : Nat) (l : Pts) (w : World), PtsAt w g 0 l → g < w.heap.size → l.length ≤ cap → cap ≤ 10000000000001 →
    Calls Tryz.prog 7 #[.slice (some ⟨g, 0, none⟩) l.length cap] w fun e w' => ∃ v, e = .returned (.tuple #[v, .int .i64 (errL l)]) ∧ Hid (New w w' ∧ w'.ownsRow w.heap.size 33 3 v (T l).length (flatT (T l)))

/-- The place behind the points, written into. -/
theorem pts_last {w : World} {B : Nat} {l : Pts} (h : PtsAt w B 0 (l ++ [(0, 0)])) (x y : Int) : PtsAt ((w.setCell ⟨B, l.length * 2, none⟩ (.int .i64 x)).setCell ⟨B, l.length * 2 + 1, none⟩ (.int .i64 y)) B 0 (l ++ [(x, y)]) := by
  have hl := h l.length (by simp)
  rw [Nat.zero_add] at hl
  intro i hi
  rw [Nat.zero_add]
  have hi' : i ≤ l.length := by simp at hi; omega
  rcases Nat.lt_or_ge i l.length with h1 | h1
  · have hh := h i (by simp; omega)
    rw [Nat.zero_add, List.getElem_append_left h1] at hh
    rw [List.getElem_append_left h1, World.cell?_setCell_other _ _ _ _ (by simp <;> omega), World.cell?_setCell_other _ _ _ _ (by simp <;> omega), World.cell?_setCell_other _ _ _ _ (by simp <;> omega), World.cell?_setCell_other _ _ _ _ (by simp <;> omega)]
    exact hh
  · have e : i = l.length := by omega
    subst e
    rw [List.getElem_append_right (Nat.le_refl _)]
    constructor
    · rw [World.cell?_setCell_other _ _ _ _ (by simp)]
      simpa using World.cell?_setCell_same _ _ _ hl.1
    · have h2 : (w.setCell ⟨B, l.length * 2, none⟩ (.int .i64 x)).cell? ⟨B, l.length * 2 + 1, none⟩ = w.cell? ⟨B, l.length * 2 + 1, none⟩ := World.cell?_setCell_other _ _ _ _ (by simp)
      simpa using World.cell?_setCell_same _ _ _ (h2.trans hl.2)

theorem flatT_length (l : List Tri) : (flatT l).length = l.length * 3 := by
  induction l with
  | nil => rfl
  | cons p l ih => simp [flatT, ih]; omega
theorem flatT_append (a b : List Tri) : flatT (a ++ b) = flatT a ++ flatT b := by
  induction a with
  | nil => rfl
  | cons p l ih => simp [flatT, ih]
theorem flatT_get : ∀ (l : List Tri) (i : Nat) (h : i < l.length), (flatT l)[i * 3]? = some (.int .i64 l[i].1) ∧ (flatT l)[i * 3 + 1]? = some (.int .i64 l[i].2.1) ∧ (flatT l)[i * 3 + 2]? = some (.int .i64 l[i].2.2)
  | [], i, h => by simp at h
  | p :: l, 0, h => ⟨rfl, rfl, rfl⟩
  | p :: l, i + 1, h => by
    have := flatT_get l i (by simpa using h)
    have e1 : (i + 1) * 3 = i * 3 + 1 + 1 + 1 := by omega
    rw [e1]
    simpa [flatT] using this
theorem flatT_one (l : List Tri) : ∀ v ∈ flatT l, v.oneCell' = true := by
  induction l with
  | nil => intro v h; simp [flatT] at h
  | cons p l ih =>
    intro v h
    simp only [flatT, List.mem_cons] at h
    rcases h with rfl | rfl | rfl | h
    · rfl
    · rfl
    · rfl
    · exact ih v h
theorem flatT_set : ∀ (l : List Tri) (k : Nat) (t : Tri), flatT (l.set k t) = (((flatT l).set (k * 3) (.int .i64 t.1)).set (k * 3 + 1) (.int .i64 t.2.1)).set (k * 3 + 2) (.int .i64 t.2.2)
  | [], k, t => by simp [flatT]
  | p :: l, 0, t => by simp [flatT]
  | p :: l, k + 1, t => by
    have := flatT_set l k t
    have e1 : (k + 1) * 3 = k * 3 + 1 + 1 + 1 := by omega
    rw [e1]
    simp [flatT, this]

/-- A list of triangles lies there. -/
def RowT (w : World) (v : Value) (n : Nat) (ts : List Tri) : Prop := w.ownsRow 0 33 3 v n (flatT ts)
theorem RowT.shape {w : World} {v : Value} {n : Nat} {ts : List Tri} (h : RowT w v n ts) : ∃ ao c, v = .slice ao n c := by
  rcases h.2 with ⟨e1, e2⟩ | ⟨g, cap, cur, e1, _⟩
  · subst e2; exact ⟨_, _, e1⟩
  · exact ⟨_, _, e1⟩
theorem RowT.form {w : World} {v : Value} {n : Nat} {ts : List Tri} (h : RowT w v n ts) (hn : 0 < n) : ∃ g c, v = .slice (some ⟨g, 0, none⟩) n c ∧ g < w.heap.size := by
  rcases h.2 with ⟨e1, e2⟩ | ⟨g, cap, cur, e1, _, e3, _⟩
  · omega
  · exact ⟨_, _, e1, (Array.getElem?_eq_some_iff.1 e3).1⟩
theorem RowT.cells {w : World} {g n c : Nat} {ts : List Tri} (h : RowT w (.slice (some ⟨g, 0, none⟩) n c) n ts) (hl : ts.length = n) {i : Nat} (hi : i < n) :
    w.cell? ⟨g, i * 3, none⟩ = some (.int .i64 (ts[i]'(by omega)).1) ∧ w.cell? ⟨g, i * 3 + 1, none⟩ = some (.int .i64 (ts[i]'(by omega)).2.1) ∧ w.cell? ⟨g, i * 3 + 2, none⟩ = some (.int .i64 (ts[i]'(by omega)).2.2) := by
  have f := flatT_get ts i (by omega)
  have h' : w.ownsRow 0 33 3 (.slice (some ⟨g, 0, none⟩) n c) n (flatT ts) := h
  rw [h'.cellAt (i * 3) (by omega), h'.cellAt (i * 3 + 1) (by omega), h'.cellAt (i * 3 + 2) (by omega)]
  exact f
theorem RowT.kept {w w' : World} {row : Option Nat} {v : Value} {n : Nat} {ts : List Tri} (h : RowT w v n ts) (hg : w.grownBy w' row) (hne : v.ownBlock = none ∨ v.ownBlock ≠ row) : RowT w' v n ts := World.ownsRow.kept h hg hne
theorem RowT.new {w w' : World} {v : Value} {n : Nat} {ts : List Tri} (h : RowT w v n ts) (hg : New w w') : RowT w' v n ts := h.kept hg (by cases v.ownBlock <;> simp)

theorem Tryz.info33 : (Tryz.prog.info? 33).map (fun i => (i.zero, i.size, i.bytes)) = some (some (.agg #[.int .i64 0, .int .i64 0, .int .i64 0]), 3, 24) := by kernel_rfl

/-- A list of triangles, appended to nothing. -/
theorem run_keep {w : World} {b : Nat} {v : Value} {ts : List Tri} (h : w.ownsRow b 33 3 v ts.length (flatT ts)) (hl : ts.length ≤ 1000000) :
    ∃ vk wk, (Builtin.append_ #[25, 25] 25 #[.slice none 0 0, v]).run Tryz.prog w = .ok vk wk ∧ RowT wk vk ts.length ts ∧ New w wk ∧ (∀ g, vk.ownBlock = some g → w.heap.size ≤ g) := by
  obtain ⟨i0, hi0, hz0, hz1, hz2⟩ := info_parts Tryz.info33
  rcases h.2 with ⟨rfl, hn⟩ | ⟨g, cap, cur, rfl, _, h3, _⟩
  · refine ⟨_, _, run_append_owned_none w 0 25 25 33 i0 3 Tryz.underlying25 hi0 _ 0 [] (World.ownsRow_nil _ _ _ _), ?_, New.refl _, fun g e => by simp [Value.ownBlock] at e⟩
    have : ts = [] := List.eq_nil_of_length_eq_zero hn
    subst this
    exact World.ownsRow_nil _ _ _ _
  · obtain ⟨vk, wk, h1, h2, h4, _⟩ := run_append_own (P := Tryz.prog) w w.heap.size 25 25 33 i0 _ 3 24 Tryz.underlying25 hi0 hz0 hz1 hz2 rfl (by omega) (.slice none 0 0) 0 [] (World.ownsRow_nil _ _ _ _) ⟨g, 0, none⟩ ts.length cap (flatT ts) (flatT_length ts)
      (fun j u hu => by
        have hj : j < ts.length * 3 := by have := (List.getElem?_eq_some_iff.1 hu).1; rwa [flatT_length] at this
        have hadd : (⟨g, 0, none⟩ : Addr).add j = ⟨g, j, none⟩ := by unfold Addr.add; split <;> simp_all
        rw [hadd, h.cellAt j hj, hu]) (flatT_one ts) (by unfold maxLen; omega) (by omega) (Nat.le_refl _)
    rw [Nat.zero_add, List.nil_append] at h2
    exact ⟨vk, wk, h1, ⟨h2.1, h2.2.imp id fun ⟨g', c', cur', e1, _, e3⟩ => ⟨g', c', cur', e1, Nat.zero_le _, e3⟩⟩, h4, fun g' e => (h2.lt g' e).1⟩

/-- Where the law stands while it writes into the first answer. -/
structure Mid (w wr : World) (B : Nat) (l : Pts) (ts cur : List Tri) (v vk : Value) : Prop where
  new : New w wr
  pin : PtsAt wr B 0 (l ++ [(77, 77)])
  blt : B < wr.heap.size
  len : cur.length = ts.length
  row : RowT wr v ts.length cur
  keep : RowT wr vk ts.length ts
  d1 : v.ownBlock ≠ some B
  d2 : v.ownBlock = none ∨ vk.ownBlock ≠ v.ownBlock
  d3 : ∀ g, v.ownBlock = some g → w.heap.size ≤ g

theorem fourF {x y : Int} (h1 : -9007199254740992 ≤ x) (h2 : x ≤ 9007199254740992) (h3 : -9007199254740992 ≤ y) (h4 : y ≤ 9007199254740992) : (decide (x < -9007199254740992) || decide (9007199254740992 < x) || decide (y < -9007199254740992) || decide (9007199254740992 < y)) = false := by
  simp; omega
theorem Mid.next {w wr wx : World} {B : Nat} {l : Pts} {ts cur : List Tri} {v vk : Value} (h : Mid w wr B l ts cur v vk) (hg : New wr wx) : Mid w wx B l ts cur v vk :=
  ⟨h.new.trans' hg, h.pin.kept h.blt hg, Nat.lt_of_lt_of_le h.blt hg.size, h.len, h.row.new hg, h.keep.new hg, h.d1, h.d2, h.d3⟩
theorem Mid.grown {w wr wx : World} {B : Nat} {l : Pts} {ts cur : List Tri} {v vk : Value} (h : Mid w wr B l ts cur v vk) (hg : wr.grownBy wx v.ownBlock) : New w wx ∧ PtsAt wx B 0 (l ++ [(77, 77)]) ∧ B < wx.heap.size ∧ RowT wx vk ts.length ts := by
  refine ⟨h.new.trans hg h.d3, ?_, Nat.lt_of_lt_of_le h.blt hg.size, ?_⟩
  · intro i hi
    have := h.pin i hi
    have hb := hg.block B h.blt (fun e => h.d1 e.symm)
    rw [World.cell?_of_block (a := ⟨B, 0 + i * 2, none⟩) hb, World.cell?_of_block (a := ⟨B, 0 + i * 2 + 1, none⟩) hb]
    exact this
  · rcases h.d2 with e | e
    · rw [e] at hg; exact h.keep.new hg
    · exact h.keep.kept hg (Or.inr e)

theorem Mid.store {w wr : World} {B : Nat} {l : Pts} {ts cur : List Tri} {g n c : Nat} {vk : Value} (h : Mid w wr B l ts cur (.slice (some ⟨g, 0, none⟩) n c) vk) (hn : n = ts.length) (k : Nat) (t : Tri) :
    Mid w (((wr.setCell ⟨g, k * 3, none⟩ (.int .i64 t.1)).setCell ⟨g, k * 3 + 1, none⟩ (.int .i64 t.2.1)).setCell ⟨g, k * 3 + 2, none⟩ (.int .i64 t.2.2)) B l ts (cur.set k t) (.slice (some ⟨g, 0, none⟩) n c) vk := by
  subst hn
  have h0 : wr.ownsRow 0 33 3 (.slice (some ⟨g, 0, none⟩) ts.length c) ts.length (flatT cur) := h.row
  have s1 := h0.stored (k * 3) (.int .i64 t.1)
  have s2 := s1.1.stored (k * 3 + 1) (.int .i64 t.2.1)
  have s3 := s2.1.stored (k * 3 + 2) (.int .i64 t.2.2)
  have hg : wr.grownBy (((wr.setCell ⟨g, k * 3, none⟩ (.int .i64 t.1)).setCell ⟨g, k * 3 + 1, none⟩ (.int .i64 t.2.1)).setCell ⟨g, k * 3 + 2, none⟩ (.int .i64 t.2.2)) (some g) :=
    ⟨rfl, rfl, rfl, by simp [World.setCell], fun q hq hne => (s3.2.block q (by simpa [World.setCell] using hq) hne).trans ((s2.2.block q (by simpa [World.setCell] using hq) hne).trans (s1.2.block q hq hne))⟩
  obtain ⟨a1, a2, a3, a4⟩ := h.grown hg
  exact ⟨a1, a2, a3, by simpa using h.len, by rw [RowT, flatT_set]; exact s3.1, a4, h.d1, h.d2, h.d3⟩

set_option maxHeartbeats 3200000 in
theorem same_law (T : Pts → List Tri) (hT : TriSays T) (ao : Option Addr) (cap : Nat) (l : Pts) (w : World) (h : PolyAt w ao l) (hin : In64 l) (hs : cap ≤ 10000000000000) (hc : l.length ≤ cap) :
    Calls Tryz.prog 4 #[.slice ao l.length cap] w fun e w' => e = .returned (.bool true) ∧ Hid (New w w') := by
  obtain ⟨i0, hi0, hz0, hz1, hz2⟩ := info_parts Tryz.info36
  obtain ⟨i7, hi7, hy0, hy1, hy2⟩ := info_parts Tryz.info33
  have HT : Hid (TriSays T) := hT
  have HP : Hid (PolyAt w ao l ∧ In64 l) := ⟨h, hin⟩
  have HS : Hid ((Tryz.prog.info? 36).map (·.size) = some 2) := by rw [Hid, hi0]; simp [hz1]
  clear h hin hT
  go_enter Tryz.func4, Tryz.ntmps4
  go_wp2_with fail
  refine (sure_any _).mono ?_
  rintro e w1 ⟨rfl, H1⟩
  go_wp2_with (at_make; refine wpList_make_full _ rfl _ _ 22 rfl w1.heap.size 36 i0 (.agg #[.int .i64 0, .int .i64 0]) 2 Tryz.underlying22 hi0 hz0 hz1 _ _ _ _ (l.length + 1) rfl rfl (by omega) (by omega) ?b2 ?b3 ?b4 ?_)
  case b2 => rw [hz2]; omega
  case b3 => unfold maxLen; omega
  case b4 => exact Nat.le_refl _
  intro w0 hown0 hgrow0
  have HN0 : Hid (New w w0) := H1.out.trans' hgrow0
  obtain ⟨B, hB⟩ : ∃ B, B = w1.heap.size := ⟨_, rfl⟩
  have HB : Hid (w.heap.size ≤ B) := by rw [hB]; exact H1.out.size
  rw [← hB] at hown0
  rw [← hB]
  obtain ⟨cur, hcur⟩ : ∃ cur, w0.heap[B]? = some (.cells cur 36 (0, 0)) ∧ cur.toList = List.replicate ((l.length + 1) * 2) (.int .i64 0) := by
    rcases hown0.2 with ⟨e, _⟩ | ⟨g, cap', cur, e, _, e3, _, _, e6, e7⟩
    · simp at e
    · injection e with e1 e2 e4
      simp only [Option.some.injEq, Addr.mk.injEq, and_true] at e1
      subst e1 e4
      refine ⟨cur, e3, ?_⟩
      have : cur.toList.take ((l.length + 1) * 2) = cur.toList := List.take_of_length_le (by simp [e6])
      rw [← this, e7]
      exact made_zero _
  have HCUR : Hid (w0.heap[B]? = some (.cells cur 36 (0, 0)) ∧ cur.toList = List.replicate ((l.length + 1) * 2) (.int .i64 0)) := hcur
  clear hcur hown0 hgrow0 H1 hB
  have hcp := run_copy_pairs (P := Tryz.prog) w0 22 22 3 36 B (l.length + 1) (l.length + 1) ao l.length cap cur 36 (flatP l) l.length Tryz.underlying22 HS.out HCUR.out.1 (by simp) (flatP_length l)
    (fun h0 => by
      obtain ⟨g, off, e, h1, h2⟩ := HP.out.1 h0
      exact ⟨_, e, fun j v hv => HN0.out.kept' (pts_cells h1 j v hv)⟩)
    (by
      have : cur.size = (l.length + 1) * 2 := by rw [← Array.length_toList, HCUR.out.2]; simp
      rw [flatP_length, this]; omega) (flatP_one l)
  obtain ⟨w2, hw2⟩ : ∃ w2, w2 = w0.setRow B (flatP l ++ cur.toList.drop (flatP l).length).toArray := ⟨_, rfl⟩
  rw [← hw2] at hcp
  have HR : Hid (New w w2 ∧ w2.heap[B]? = some (.cells (flatP (l ++ [(0, 0)])).toArray 36 (0, 0))) := by
    have hb : w2.heap[B]? = some (.cells (flatP (l ++ [(0, 0)])).toArray 36 (0, 0)) := by
      rw [hw2]
      have : (flatP l ++ cur.toList.drop (flatP l).length).toArray = (flatP (l ++ [(0, 0)])).toArray := by
        rw [HCUR.out.2, flatP_append, List.drop_replicate, flatP_length, show (l.length + 1) * 2 - l.length * 2 = 2 by omega]; rfl
      rw [← this]
      exact setRow_heap w0 B _ _ 36 _ HCUR.out.1
    exact ⟨by rw [hw2]; exact Below.new' (below_setRow (New.below' HN0.out) HB.out _), hb⟩
  clear hw2 HN0 HCUR
  go_wp2_with fail
  refine (at_any 77 77 _).mono ?_
  rintro e w3 ⟨rfl, H3⟩
  have HR3 : Hid (New w w3 ∧ w3.heap[B]? = some (.cells (flatP (l ++ [(0, 0)])).toArray 36 (0, 0))) := ⟨HR.out.1.trans' H3.out, (H3.out.block _ (Array.getElem?_eq_some_iff.1 HR.out.2).1 (by simp)).trans HR.out.2⟩
  have HQ : Hid (PtsAt w3 B 0 (l ++ [(0, 0)])) := pts_row HR3.out.2 rfl
  have q0 : w3.cell? ⟨B, l.length * 2, none⟩ = some (.int .i64 0) := by have := (HQ.out l.length (by simp)).1; rw [Nat.zero_add, List.getElem_append_right (Nat.le_refl _)] at this; simpa using this
  have q1 : w3.cell? ⟨B, l.length * 2 + 1, none⟩ = some (.int .i64 0) := by have := (HQ.out l.length (by simp)).2; rw [Nat.zero_add, List.getElem_append_right (Nat.le_refl _)] at this; simpa using this
  have qf : ∀ o, w3.frozen? ⟨B, o, none⟩ = false := fun o => by simp [World.frozen?, HR3.out.2]
  have hb0 : (0 : Int) ≤ (l.length : Int) := by omega
  have hb1 : (l.length : Int) < (l.length : Int) + 1 := by omega
  have hb2 : (l.length : Int) ≤ (l.length : Int) + 1 := by omega
  clear H3 HR
  go_wp2_with fail
  obtain ⟨w4, hw4⟩ : ∃ w4, w4 = (w3.setCell ⟨B, l.length * 2, none⟩ (.int .i64 77)).setCell ⟨B, l.length * 2 + 1, none⟩ (.int .i64 77) := ⟨_, rfl⟩
  have HM4 : Hid (New w w4 ∧ PtsAt w4 B 0 (l ++ [(77, 77)]) ∧ B < w4.heap.size) := by
    rw [hw4]
    exact ⟨(HR3.out.1.set HB.out _).set HB.out _, pts_last HQ.out 77 77, by have := (Array.getElem?_eq_some_iff.1 HR3.out.2).1; simpa [World.setCell] using this⟩
  rw [← hw4]
  clear hw4 q0 q1 qf HR3 HQ
  obtain ⟨ts, hts⟩ : ∃ ts, ts = T l := ⟨_, rfl⟩
  have hlen : ts.length ≤ 1000000 := by rw [hts]; exact HT.out.len l
  have HBAD : Hid (errL l ≠ 0 → ts = []) := by rw [hts]; exact HT.out.bad l
  have HCALL : Hid (∀ wx : World, PtsAt wx B 0 (l ++ [(77, 77)]) → B < wx.heap.size → Calls Tryz.prog 7 #[.slice (some ⟨B, 0, none⟩) l.length (l.length + 1)] wx fun e w' => ∃ v, e = .returned (.tuple #[v, .int .i64 (errL l)]) ∧ Hid (New wx w' ∧ w'.ownsRow wx.heap.size 33 3 v ts.length (flatT ts))) := by
    intro wx hp hb
    rw [hts]
    refine HT.out.call B (l.length + 1) l wx (fun i hi => ?_) hb (by omega) (by omega)
    have := hp i (by simp; omega)
    rwa [List.getElem_append_left hi] at this
  clear hts HT
  refine (HCALL.out w4 HM4.out.2.1 HM4.out.2.2).mono ?_
  rintro e w5 ⟨v, rfl, H5⟩
  obtain ⟨vk, wk, hrun, hk1, hk2, hk3⟩ := run_keep H5.out.2 hlen
  have HMID : Hid (Mid w wk B l ts ts v vk) := by
    have hv := H5.out.2
    have hlt := hv.lt
    have h0 : RowT w5 v ts.length ts := ⟨hv.1, hv.2.imp id fun ⟨g', c', cur', e1, _, e3⟩ => ⟨g', c', cur', e1, Nat.zero_le _, e3⟩⟩
    refine ⟨(HM4.out.1.trans' H5.out.1).trans' hk2, (HM4.out.2.1.kept HM4.out.2.2 H5.out.1).kept (Nat.lt_of_lt_of_le HM4.out.2.2 H5.out.1.size) hk2, Nat.lt_of_lt_of_le HM4.out.2.2 (Nat.le_trans H5.out.1.size hk2.size), rfl, h0.new hk2, hk1, ?_, ?_, ?_⟩
    · intro e
      have := (hlt B e).1
      have := HM4.out.2.2
      omega
    · cases hb : v.ownBlock with
      | none => exact Or.inl rfl
      | some q =>
        right
        intro e
        have h1 := (hlt q hb).2
        have h2 := hk3 q e
        omega
    · intro g e
      have := (hlt g e).1
      have := HM4.out.1.size
      omega
  obtain ⟨vo, vc, rfl⟩ := HMID.out.row.shape
  obtain ⟨ko, kc, rfl⟩ := hk1.shape
  clear hk1 hk2 hk3 H5 HM4
  go_wp2_with (at_builtin; refine wpList_append_run rfl _ _ 25 25 rfl _ _ _ _ rfl rfl hrun ?_)
  clear hrun
  go_wp2_with fail
  go_loopw [8] (fun iv wr => ∃ (k : Nat) (cur : List Tri), iv = .int .i64 k ∧ k ≤ ts.length ∧ Hid (Mid w wr B l ts cur (.slice vo ts.length vc) (.slice ko ts.length kc) ∧ ∀ i, i < k → cur[i]? = some (-1, -1, -1)))
    (fun iv _ => ts.length - (intOf iv).toNat)
  case atStart => exact ⟨0, ts, rfl, Nat.zero_le _, HMID.out, fun i hi => by omega⟩
  case round =>
    obtain ⟨k, cur, rfl, hle, H⟩ := hrel
    have hk0 : (0 : Int) ≤ (k : Int) := by omega
    by_cases hk : k < ts.length
    · obtain ⟨g, c, hg, hglt⟩ := H.out.1.row.form (by omega)
      injection hg with hg1 hg2 hg3
      subst hg1 hg3
      have hcl := H.out.1.row.cells H.out.1.len hk
      have c0 := hcl.1
      have c1 := hcl.2.1
      have c2 := hcl.2.2
      have cf : ∀ j, wr.frozen? ⟨g, j, none⟩ = false := fun j => World.ownsRow.frozenAt H.out.1.row j
      have HM2 : Hid (Mid w (((wr.setCell ⟨g, k * 3, none⟩ (.int .i64 (-1))).setCell ⟨g, k * 3 + 1, none⟩ (.int .i64 (-1))).setCell ⟨g, k * 3 + 2, none⟩ (.int .i64 (-1))) B l ts (cur.set k (-1, -1, -1)) (.slice (some ⟨g, 0, none⟩) ts.length vc) (.slice ko ts.length kc)) := H.out.1.store rfl k (-1, -1, -1)
      have hk1 : (k : Int) < (ts.length : Int) := by omega
      clear hcl
      go_wp2_with fail
      go_roundw
      case rel =>
        refine ⟨k + 1, cur.set k (-1, -1, -1), by go_num, hk, HM2.out, fun i hi => ?_⟩
        rcases Nat.lt_or_ge i k with h1 | h1
        · rw [List.getElem?_set_ne (by omega)]; exact H.out.2 i h1
        · have e : i = k := by omega
          subst e
          rw [List.getElem?_set_self (by have := H.out.1.len; omega)]
      case measure => simp [intOf]; omega
    · have hkk : k = ts.length := by omega
      subst hkk
      go_wp2_with (at_builtin; refine wpList_append_own _ rfl _ _ 25 rfl 0 33 i7 (.agg #[.int .i64 0, .int .i64 0, .int .i64 0]) 3 24 Tryz.underlying25 hi7 hy0 hy1 hy2 rfl (by decide) _ _ _ rfl (World.ownsRow.alloc H.out.1.row _) ⟨wr.heap.size, 0, none⟩ 1 1 [.int .i64 (-2), .int .i64 0, .int .i64 0] rfl rfl (World.news_of_block (cs := #[.int .i64 (-2), .int .i64 0, .int .i64 0]) (t := 33) (fr := (0, 0)) (heap_alloc_new _ _)) ?c2 ?c3 ?c4 ?c5 ?_)
      case c2 => simp [Value.oneCell']
      case c3 => unfold maxLen; omega
      case c4 => omega
      case c5 => omega
      intro vg w7 hown7 hgrow7 hnil
      have HG7 : Hid ((New w w7 ∧ PtsAt w7 B 0 (l ++ [(77, 77)]) ∧ B < w7.heap.size ∧ RowT w7 (.slice ko ts.length kc) ts.length ts) ∧ RowT w7 vg (ts.length + 1) (cur ++ [(-2, 0, 0)]) ∧ cur.length = ts.length ∧ ∀ i, i < ts.length → cur[i]? = some (-1, -1, -1)) :=
        ⟨(H.out.1.next (New.alloc _ _)).grown hgrow7, by rw [RowT, flatT_append]; exact hown7, H.out.1.len, H.out.2⟩
      clear hown7 hgrow7 hnil H HMID
      obtain ⟨gg, cg, rfl, hgg⟩ := HG7.out.2.1.form (by omega)
      go_wp2_with fail
      refine (HCALL.out w7 HG7.out.1.2.1 HG7.out.1.2.2.1).mono ?_
      rintro e w8 ⟨v2, rfl, H8⟩
      have HS8 : Hid (New w w8 ∧ PtsAt w8 B 0 (l ++ [(77, 77)]) ∧ RowT w8 (.slice ko ts.length kc) ts.length ts ∧ RowT w8 (.slice (some ⟨gg, 0, none⟩) (ts.length + 1) cg) (ts.length + 1) (cur ++ [(-2, 0, 0)]) ∧ RowT w8 v2 ts.length ts) :=
        ⟨HG7.out.1.1.trans' H8.out.1, HG7.out.1.2.1.kept HG7.out.1.2.2.1 H8.out.1, HG7.out.1.2.2.2.new H8.out.1, HG7.out.2.1.new H8.out.1, ⟨H8.out.2.1, H8.out.2.2.imp id fun ⟨g', c', cur', e1, _, e3⟩ => ⟨g', c', cur', e1, Nat.zero_le _, e3⟩⟩⟩
      have HC8 : Hid (cur.length = ts.length ∧ ∀ i, i < ts.length → cur[i]? = some (-1, -1, -1)) := HG7.out.2.2
      clear HG7 H8 hgg
      obtain ⟨o2, c2, rfl⟩ := HS8.out.2.2.2.2.shape
      go_wp2_with fail
      go_loopw [12] (fun iv wr => ∃ k : Nat, iv = .int .i64 k ∧ k ≤ ts.length ∧ Hid (New w8 wr)) (fun iv _ => ts.length - (intOf iv).toNat)
      case atStart => exact ⟨0, rfl, Nat.zero_le _, New.refl _⟩
      case round =>
        obtain ⟨k, rfl, hle2, H⟩ := hrel
        have hk0 : (0 : Int) ≤ (k : Int) := by omega
        by_cases hk2 : k < ts.length
        · obtain ⟨g2, c2', hg, _⟩ := HS8.out.2.2.2.2.form (by omega)
          injection hg with hg1 hg2 hg3
          subst hg1 hg3
          obtain ⟨g1, c1', hg, _⟩ := HS8.out.2.2.1.form (by omega)
          injection hg with hg1 hg2 hg3
          subst hg1 hg3
          obtain ⟨x, hx⟩ : ∃ x, x = ts[k].1 := ⟨_, rfl⟩
          obtain ⟨y, hy⟩ : ∃ y, y = ts[k].2.1 := ⟨_, rfl⟩
          obtain ⟨z, hz⟩ : ∃ z, z = ts[k].2.2 := ⟨_, rfl⟩
          have a := (HS8.out.2.2.2.2.new H.out).cells rfl hk2
          have b := (HS8.out.2.2.1.new H.out).cells rfl hk2
          have d := (HS8.out.2.2.2.1.new H.out).cells (by simp [HC8.out.1]) (i := k) (by omega)
          rw [← hx, ← hy, ← hz] at a b
          have a0 := a.1
          have a1 := a.2.1
          have a2 := a.2.2
          have b0 := b.1
          have b1 := b.2.1
          have b2 := b.2.2
          have d0 : wr.cell? ⟨gg, k * 3, none⟩ = some (.int .i64 (-1)) := by
            have hc := HC8.out.2 k hk2
            have hl : k < cur.length := by have := HC8.out.1; omega
            have e : (cur ++ [(-2, 0, 0)])[k]'(by simp; omega) = (-1, -1, -1) := by
              rw [List.getElem_append_left hl]
              rw [List.getElem?_eq_getElem hl] at hc
              exact Option.some.inj hc
            have := d.1
            rw [e] at this
            exact this
          have hk1 : (k : Int) < (ts.length : Int) := by omega
          have hk3 : (k : Int) < (ts.length : Int) + 1 := by omega
          clear a b d hx hy hz
          go_wp2_with fail
          go_region_held3 (fun w' => w'.cell? ⟨g2, k * 3, none⟩ = some (.int .i64 x) ∧ w'.cell? ⟨g2, k * 3 + 1, none⟩ = some (.int .i64 y) ∧ w'.cell? ⟨g2, k * 3 + 2, none⟩ = some (.int .i64 z) ∧ w'.cell? ⟨g1, k * 3, none⟩ = some (.int .i64 x) ∧ w'.cell? ⟨g1, k * 3 + 1, none⟩ = some (.int .i64 y) ∧ w'.cell? ⟨g1, k * 3 + 2, none⟩ = some (.int .i64 z) ∧ w'.cell? ⟨gg, k * 3, none⟩ = some (.int .i64 (-1))) (go_keep) (first | fail)
          go_wp2_with fail
          go_roundw
          case rel => exact ⟨k + 1, by go_num, hk2, H.out.drewN 1⟩
          case measure => simp [intOf]; omega
        · have hkk : k = ts.length := by omega
          subst hkk
          have HS9 : Hid (New w wr ∧ PtsAt wr B 0 (l ++ [(77, 77)]) ∧ RowT wr (.slice (some ⟨gg, 0, none⟩) (ts.length + 1) cg) (ts.length + 1) (cur ++ [(-2, 0, 0)])) := ⟨HS8.out.1.trans' H.out, fun i hi => ⟨H.out.kept (HS8.out.2.1 i hi).1, H.out.kept (HS8.out.2.1 i hi).2⟩, HS8.out.2.2.2.1.new H.out⟩
          clear H HS8
          generalize wr = ws at *
          go_wp2_with fail
          go_loopw [13, 14] (fun bv iv wq => ∃ k : Nat, iv = .int .i64 k ∧ k ≤ l.length ∧ bv = .bool (!okB (l.take k)) ∧ Hid (New ws wq)) (fun _ iv _ => l.length - (intOf iv).toNat)
          case atStart => exact ⟨0, rfl, Nat.zero_le _, rfl, New.refl _⟩
          case round =>
            obtain ⟨k, rfl, hle3, rfl, H⟩ := hrel
            have hk0 : (0 : Int) ≤ (k : Int) := by omega
            by_cases hk2 : k < l.length
            · obtain ⟨g, off, hao, hp, _⟩ := HP.out.1 (by omega)
              subst hao
              obtain ⟨x, hx⟩ : ∃ x, x = l[k].1 := ⟨_, rfl⟩
              obtain ⟨y, hy⟩ : ∃ y, y = l[k].2 := ⟨_, rfl⟩
              have HT1 : Hid (okB (l.take (k + 1)) = (okB (l.take k) && (cdB x && cdB y))) := by
                rw [Hid, hx, hy, okB, okB, List.take_succ_eq_append_getElem hk2, List.all_append]; simp
              have v0 : wr.cell? ⟨g, off + k * 2, none⟩ = some (.int .i64 x) := by rw [hx]; exact H.out.kept (HS9.out.1.kept (hp k hk2).1)
              have v1 : wr.cell? ⟨g, off + k * 2 + 1, none⟩ = some (.int .i64 y) := by rw [hy]; exact H.out.kept (HS9.out.1.kept (hp k hk2).2)
              have u0 : ∀ o, (wr.alloc o).cell? ⟨B, k * 2, none⟩ = some (.int .i64 x) := fun o => by
                have := (HS9.out.2.1 k (by simp; omega)).1
                rw [Nat.zero_add, List.getElem_append_left hk2, ← hx] at this
                exact (H.out.alloc' o).kept this
              have u1 : ∀ o, (wr.alloc o).cell? ⟨B, k * 2 + 1, none⟩ = some (.int .i64 y) := fun o => by
                have := (HS9.out.2.1 k (by simp; omega)).2
                rw [Nat.zero_add, List.getElem_append_left hk2, ← hy] at this
                exact (H.out.alloc' o).kept this
              have hk1 : (k : Int) < (l.length : Int) := by omega
              have hk3 : (k : Int) < (l.length : Int) + 1 := by omega
              clear hx hy hp
              go_wp2_with fail
              go_region_held3 (fun w' => w'.cell? ⟨B, k * 2, none⟩ = some (.int .i64 x) ∧ w'.cell? ⟨B, k * 2 + 1, none⟩ = some (.int .i64 y) ∧ w'.cell? ⟨wr.heap.size, 0, none⟩ = some (.int .i64 x) ∧ w'.cell? ⟨wr.heap.size, 1, none⟩ = some (.int .i64 y)) (first | exact ⟨u0 _, u1 _, by go_simp, by go_simp⟩ | go_keep) (first | fail)
              have HN : Hid (New ws (wr.alloc (.cells #[.int .i64 x, .int .i64 y] 36)).drew) := (H.out.alloc' _).drewN 1
              clear u0 u1 v0 v1
              cases hb : okB (l.take k) with
              | false =>
                have HOK : Hid ((!okB (l.take (k + 1))) = true) := by rw [Hid, HT1.out, hb]; rfl
                clear hb
                go_wp2_with fail
                go_roundw
                case rel => exact ⟨k + 1, by go_num, hk2, by rw [HOK.out], HN.out⟩
                case measure => simp [intOf]; omega
              | true =>
                have HBV : Hid (okB (l.take k) = true) := hb
                clear hb
                rcases cd_cases x with ⟨q1, qx⟩ | ⟨q1, qx⟩ | ⟨q1, q2, qx⟩
                · have HOK : Hid ((!okB (l.take (k + 1))) = true) := by rw [Hid, HT1.out, HBV.out, qx]; rfl
                  clear qx
                  go_wp2_with fail
                  go_roundw
                  case rel => exact ⟨k + 1, by go_num, hk2, by rw [HOK.out], HN.out⟩
                  case measure => simp [intOf]; omega
                · have HOK : Hid ((!okB (l.take (k + 1))) = true) := by rw [Hid, HT1.out, HBV.out, qx]; rfl
                  clear qx
                  go_wp2_with fail
                  go_roundw
                  case rel => exact ⟨k + 1, by go_num, hk2, by rw [HOK.out], HN.out⟩
                  case measure => simp [intOf]; omega
                · rcases cd_cases y with ⟨r1, qy⟩ | ⟨r1, qy⟩ | ⟨r1, r2, qy⟩
                  · have HOK : Hid ((!okB (l.take (k + 1))) = true) := by rw [Hid, HT1.out, HBV.out, qx, qy]; rfl
                    clear qx qy
                    go_wp2_with fail
                    go_roundw
                    case rel => exact ⟨k + 1, by go_num, hk2, by rw [HOK.out], HN.out⟩
                    case measure => simp [intOf]; omega
                  · have HOK : Hid ((!okB (l.take (k + 1))) = true) := by rw [Hid, HT1.out, HBV.out, qx, qy]; rfl
                    clear qx qy
                    go_wp2_with fail
                    go_roundw
                    case rel => exact ⟨k + 1, by go_num, hk2, by rw [HOK.out], HN.out⟩
                    case measure => simp [intOf]; omega
                  · have HOK : Hid ((!okB (l.take (k + 1))) = false) := by rw [Hid, HT1.out, HBV.out, qx, qy]; rfl
                    clear qx qy
                    go_wp2_with fail
                    go_roundw
                    case rel => exact ⟨k + 1, by go_num, hk2, by rw [HOK.out, fourF q1 q2 r1 r2], HN.out⟩
                    case measure => simp [intOf]; omega
            · have hkk : k = l.length := by omega
              subst hkk
              rw [List.take_length]
              have i77 : wr.cell? ⟨B, l.length * 2, none⟩ = some (.int .i64 77) := by
                have := (HS9.out.2.1 l.length (by simp)).1
                rw [Nat.zero_add, List.getElem_append_right (Nat.le_refl _)] at this
                exact H.out.kept (by simpa using this)
              have g2 : wr.cell? ⟨gg, ts.length * 3, none⟩ = some (.int .i64 (-2)) := by
                have hl := HC8.out.1
                have hc := (HS9.out.2.2.new H.out).cells (by simp [hl]) (i := ts.length) (by omega)
                have e : (cur ++ [(-2, 0, 0)])[ts.length]'(by simp [hl]) = (-2, 0, 0) := by
                  rw [List.getElem_append_right (by omega)]; simp [hl]
                have := hc.1
                rw [e] at this
                exact this
              have HN : Hid (New w wr) := HS9.out.1.trans' H.out
              have hb1 : (l.length : Int) < (l.length : Int) + 1 := by omega
              have ht0 : (0 : Int) ≤ (ts.length : Int) := by omega
              have ht1 : (ts.length : Int) < (ts.length : Int) + 1 := by omega
              by_cases h40 : 40 < l.length
              · have hE : errL l = 2 := by rw [errL, if_pos h40]
                have hts : ts.length = 0 := by rw [HBAD.out (by omega)]; rfl
                have g20 : wr.cell? ⟨gg, 0, none⟩ = some (.int .i64 (-2)) := by have := g2; rw [hts] at this; simpa using this
                go_wp2_with fail
                go_ret
                exact ⟨rfl, HN⟩
              · have HE : Hid (errL l = okE l) := by rw [Hid, errL, if_neg h40]
                cases hb : okB l with
                | false =>
                  have hE : errL l = 1 := by rw [HE.out, okE, hb]; rfl
                  have hts : ts.length = 0 := by rw [HBAD.out (by omega)]; rfl
                  have g20 : wr.cell? ⟨gg, 0, none⟩ = some (.int .i64 (-2)) := by have := g2; rw [hts] at this; simpa using this
                  clear hb
                  go_wp2_with fail
                  go_ret
                  exact ⟨rfl, HN⟩
                | true =>
                  have hE : errL l = 0 := by rw [HE.out, okE, hb]; rfl
                  clear hb
                  go_wp2_with fail
                  go_ret
                  exact ⟨rfl, HN⟩

end Go.Proofs.YtgeoffpcmkofkaaGreat
/- What Triangulate answers at this commit, as the law Same asks for it. -/
namespace Go.Proofs.YtgeoffpcmkofkaaGreat
open Go.RowKit Go.Maps Fl
set_option maxRecDepth 100000

theorem flatT_eq : ∀ l : List Tri, flatT l = l.flatMap encT
  | [] => rfl
  | t :: l => by simp [flatT, encT, flatT_eq l]

theorem tri_now : TriSays triOf := by
  refine ⟨triOf_len, fun l h => triOf_bad h, fun g cap l w hp hg _ _ => ?_⟩
  refine (tri_some g cap l w hp hg).mono ?_
  rintro e w' ⟨v, rfl, h⟩
  refine ⟨v, rfl, h.out.1, ?_⟩
  rw [flatT_eq]
  exact h.out.2.2

end Go.Proofs.YtgeoffpcmkofkaaGreat
