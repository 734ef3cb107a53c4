/- Hl; Ng; Nh; Ms; Mt: texts laid into one. -/
import Derived.Test.YtgeoffpcmkofkaaQav
import Derived.Test.YtgeoffpcmkofkaaQaw
import Derived.Lib.SmallJoins
/- plumbref's 'Hull' and the ring of corners: the same numbers. -/
namespace Go.Proofs.Ytgeoffpcmkofkaa
open Go Go.RowKit Fl

theorem pN_num {l : Pts} {p : Pt} (h : p ∈ l) : pN l (num l p) = p := by
  unfold pN
  rw [(num_of h).1.here]
  rfl
theorem okJ_iff {l : Pts} (hc : ∀ x ∈ l, CdP x) {x k j : Pt} (hx : x ∈ l) (hk : k ∈ l) (hj : j ∈ l) (hne : K x ≠ K k) : okJ x k j = true ↔ 0 ≤ D x k j ∧ (D x k j = 0 → ¬(K x < K k ∧ K j < K x) ∧ ¬(K k < K x ∧ K x < K j)) := by
  have hon := holds_iff (hc k hk) (hc j hj) (hc x hx)
  have r1 := D_rot x k j
  have hinj : K j = K x ↔ j = x := ⟨fun e => K_inj (hc j hj) (hc x hx) e, fun e => by rw [e]⟩
  simp only [okJ, onB, sameB, Bool.and_eq_true, Bool.or_eq_true, Bool.not_eq_true', Bool.and_eq_false_iff, decide_eq_true_eq, decide_eq_false_iff_not, hon, ← hinj]
  constructor
  · rintro ⟨h1, h2⟩
    refine ⟨h1, fun h0 => ?_⟩
    rw [r1, h0] at h2
    omega
  · rintro ⟨h1, h2⟩
    refine ⟨h1, ?_⟩
    by_cases h0 : D x k j = 0
    · have := h2 h0
      rw [r1, h0]
      omega
    · exact .inl (.inl h0)
theorem goodK_iff {l : Pts} (hc : ∀ x ∈ l, CdP x) {x k : Pt} (hx : x ∈ l) (hk : k ∈ l) : goodK l x k = true ↔ Towards D K (· ∈ l) x k := by
  unfold goodK
  rw [Bool.and_eq_true, List.all_eq_true]
  constructor
  · rintro ⟨h1, h2⟩
    have hne : K x ≠ K k := fun e => by
      rw [K_inj (hc x hx) (hc k hk) e] at h1
      simp [sameB] at h1
    have h3 := fun j hj => (okJ_iff hc hx hk hj hne).1 (h2 j hj)
    exact ⟨fun j hj => (h3 j hj).1, fun h j hj h0 hlt => ((h3 j hj).2 h0).1 ⟨h, hlt⟩, fun h j hj h0 hlt => ((h3 j hj).2 h0).2 ⟨h, hlt⟩, hne⟩
  · intro h
    refine ⟨?_, fun j hj => (okJ_iff hc hx hk hj h.apart).2 ⟨h.left j hj, fun h0 => ⟨fun hh => h.ahead hh.1 j hj h0 hh.2, fun hh => h.backward hh.1 j hj h0 hh.2⟩⟩⟩
    have : k ≠ x := fun e => h.apart (by rw [e])
    simp [sameB, this]

theorem cornersTo_mem (l : Pts) : ∀ (k n : Nat), n ∈ cornersTo l k ↔ n < k ∧ cornerB l n = true
  | 0, n => by simp [cornersTo]
  | k + 1, n => by
    unfold cornersTo
    split
    · rename_i h
      rw [List.mem_append, cornersTo_mem l k n, List.mem_singleton]
      constructor
      · rintro (h1 | rfl)
        · exact ⟨by omega, h1.2⟩
        · exact ⟨by omega, h⟩
      · rintro ⟨h1, h2⟩
        by_cases e : n = k
        · exact .inr e
        · exact .inl ⟨by omega, h2⟩
    · rename_i h
      rw [cornersTo_mem l k n]
      constructor
      · rintro ⟨h1, h2⟩; exact ⟨by omega, h2⟩
      · rintro ⟨h1, h2⟩
        by_cases e : n = k
        · rw [e] at h2; exact absurd h2 h
        · exact ⟨by omega, h2⟩
theorem cornersTo_nodup (l : Pts) : ∀ k, (cornersTo l k).Nodup
  | 0 => by simp [cornersTo]
  | k + 1 => by
    unfold cornersTo
    split
    · refine List.nodup_append.2 ⟨cornersTo_nodup l k, by simp, fun a ha b hb => ?_⟩
      have := cornersTo_lt l k a ha
      have : b = k := by simpa using hb
      omega
    · exact cornersTo_nodup l k
section
variable {l : Pts} (hc : ∀ x ∈ l, CdP x)
include hc
theorem cornerB_iff {R : Pts} (h : RingOK l R) (n : Nat) : cornerB l n = true ↔ ∃ x ∈ R, num l x = n := by
  unfold cornerB
  constructor
  · intro hb
    split at hb
    · rename_i x hx
      rw [Bool.and_eq_true, List.any_eq_true] at hb
      obtain ⟨h1, k, hk, h2⟩ := hb
      have hxl := List.mem_of_getElem? hx
      refine ⟨x, h.all x hxl k hk ((goodK_iff hc hxl hk).1 h2), (num_of hxl).1.one ⟨hx, fun j hj => ?_⟩⟩
      have := of_decide_eq_true h1 j hj
      rw [hx] at this
      exact this
    · simp at hb
  · rintro ⟨x, hx, rfl⟩
    have hxl := h.sub x hx
    have hn := (num_of hxl).1
    rw [hn.here]
    simp only
    rw [Bool.and_eq_true, List.any_eq_true]
    obtain ⟨i, hi, e⟩ := List.mem_iff_getElem.1 hx
    have hp : 0 < R.length := by omega
    have e1 : R[i]? = some x := by rw [List.getElem?_eq_getElem hi, e]
    have hm : (i + 1) % R.length < R.length := Nat.mod_lt _ hp
    have e2 : R[(i + 1) % R.length]? = some R[(i + 1) % R.length] := List.getElem?_eq_getElem hm
    have hk := h.sub _ (List.mem_of_getElem? e2)
    refine ⟨?_, _, hk, (goodK_iff hc hxl hk).2 (h.tow i _ _ e1 e2)⟩
    unfold firstB
    rw [hn.here]
    exact decide_eq_true fun k hk => hn.first k hk
theorem corners_mem {R : Pts} (h : RingOK l R) (n : Nat) : n ∈ cornersTo l l.length ↔ ∃ x ∈ R, num l x = n := by
  rw [cornersTo_mem, cornerB_iff hc h]
  constructor
  · exact fun h => h.2
  · rintro ⟨x, hx, rfl⟩
    exact ⟨num_lt (h.sub x hx), x, hx, rfl⟩
theorem corners_len {R : Pts} (h : RingOK l R) : (cornersTo l l.length).length = R.length := by
  have hm : (R.map (num l)).Nodup := by
    rw [List.Nodup, List.pairwise_map]
    refine (List.Pairwise.and_mem.1 h.list_nodup).imp fun {a b} hh e => ?_
    exact hh.2.2 (num_inj (h.sub a hh.1) (h.sub b hh.2.1) e)
  have a1 := len_le hm (b := cornersTo l l.length) fun n hn => by
    obtain ⟨x, hx, e⟩ := List.mem_map.1 hn
    exact (corners_mem hc h n).2 ⟨x, hx, e⟩
  have a2 := len_le (cornersTo_nodup l l.length) (b := R.map (num l)) fun n hn => by
    obtain ⟨x, hx, e⟩ := (corners_mem hc h n).1 hn
    exact List.mem_map.2 ⟨x, hx, e⟩
  simp at a1 a2
  omega
theorem next_ring {R : Pts} (h : RingOK l R) {cs : List Nat} (hcs : ∀ n, n ∈ cs ↔ ∃ x ∈ R, num l x = n) {i : Nat} {x k : Pt} (e1 : R[i]? = some x) (e2 : R[(i + 1) % R.length]? = some k) : nextN l cs (num l x) = num l k := by
  have hp : 0 < R.length := by have := h.len; omega
  have hi := (List.getElem?_eq_some_iff.1 e1).1
  have hxR := List.mem_of_getElem? e1
  have hkR := List.mem_of_getElem? e2
  have hx := h.sub x hxR
  have hk := h.sub k hkR
  have ht := h.tow i x k e1 e2
  have hkc : num l k ∈ cs := (hcs _).2 ⟨k, hkR, rfl⟩
  have hb : nextB l cs (num l x) (num l k) = true := by
    unfold nextB
    rw [Bool.and_eq_true, List.all_eq_true]
    refine ⟨decide_eq_true fun e => ht.apart (by rw [num_inj hk hx e]), fun n hn => ?_⟩
    obtain ⟨y, hy, rfl⟩ := (hcs n).1 hn
    unfold leftJ
    rw [pN_num hx, pN_num hk, pN_num (h.sub y hy)]
    exact decide_eq_true (ht.left y (h.sub y hy))
  unfold nextN
  cases hf : cs.find? (nextB l cs (num l x)) with
  | none =>
    have := List.find?_eq_none.1 hf _ hkc
    exact absurd hb this
  | some z =>
    have hz := List.find?_some hf
    have hzc := List.mem_of_find?_eq_some hf
    obtain ⟨k', hk'R, rfl⟩ := (hcs z).1 hzc
    have hk' := h.sub k' hk'R
    unfold nextB at hz
    rw [Bool.and_eq_true, List.all_eq_true] at hz
    have hne : k' ≠ x := fun e => (of_decide_eq_true hz.1) (by rw [e])
    have hd := hz.2 _ hkc
    unfold leftJ at hd
    rw [pN_num hx, pN_num hk, pN_num hk'] at hd
    obtain ⟨m, hm, em⟩ := List.mem_iff_getElem.1 hk'R
    have t1 := h.tow m k' _ (by rw [List.getElem?_eq_getElem hm, em]) (List.getElem?_eq_getElem (Nat.mod_lt (m + 1) hp))
    have t2 := h.tow _ k _ e2 (List.getElem?_eq_getElem (Nat.mod_lt ((i + 1) % R.length + 1) hp))
    have := next_one plDK affDK hx hk hk' ht t2 t1 (of_decide_eq_true hd) (fun e => hne (K_inj (hc _ hk') (hc _ hx) e))
    show num l k' = num l k
    rw [K_inj (hc _ hk') (hc _ hk) this]
theorem goRound_ring {R : Pts} (h : RingOK l R) {cs : List Nat} (hcs : ∀ n, n ∈ cs ↔ ∃ x ∈ R, num l x = n) : ∀ (m i : Nat) (x : Pt), R[i]? = some x → i + m ≤ R.length → goRound l cs (num l x) m = ((R.drop i).take m).map (num l)
  | 0, i, x, _, _ => by simp [goRound]
  | m + 1, i, x, e, hm => by
    have hi := (List.getElem?_eq_some_iff.1 e).1
    have ed : R.drop i = x :: R.drop (i + 1) := by rw [List.drop_eq_getElem_cons hi, (List.getElem?_eq_some_iff.1 e).2]
    unfold goRound
    rw [ed, List.take_succ_cons, List.map_cons]
    congr 1
    by_cases h1 : i + 1 < R.length
    · have e2 : R[(i + 1) % R.length]? = some R[i + 1] := by rw [Nat.mod_eq_of_lt h1]; exact List.getElem?_eq_getElem h1
      rw [next_ring hc h hcs e e2]
      exact goRound_ring h hcs m (i + 1) _ (List.getElem?_eq_getElem h1) (by omega)
    · have : m = 0 := by omega
      subst this
      simp [goRound]
omit hc in
theorem lessP_iff {p q : Pt} (hp : CdP p) (hq : CdP q) : lessP p q = true ↔ K p < K q := by
  have := K_le hq hp
  simp only [lessP, Bool.or_eq_true, Bool.and_eq_true, decide_eq_true_eq]
  constructor
  · intro h
    apply Int.not_le.1
    rw [this]
    omega
  · intro h
    have h2 : ¬K q ≤ K p := by omega
    rw [this] at h2
    omega
theorem least_ok {cs : List Nat} (hcs : ∀ n ∈ cs, n < l.length) {a : Nat} (ha : a ∈ cs) : ∀ k, leastTo l cs a k ∈ cs ∧ ∀ j, j < k → ∀ c, cs[j]? = some c → K (pN l (leastTo l cs a k)) ≤ K (pN l c)
  | 0 => ⟨ha, fun j hj => by omega⟩
  | k + 1 => by
    obtain ⟨h1, h2⟩ := least_ok hcs ha k
    have cd : ∀ n ∈ cs, CdP (pN l n) := fun n hn => by
      unfold pN
      rw [List.getElem?_eq_getElem (hcs n hn)]
      exact hc _ (List.getElem_mem _)
    unfold leastTo
    split
    · rename_i c hk
      have hcm := List.mem_of_getElem? hk
      have hl := lessP_iff (cd c hcm) (cd _ h1)
      split
      · rename_i hlt
        rw [hl] at hlt
        refine ⟨hcm, fun j hj c' hc' => ?_⟩
        by_cases e : j = k
        · subst e
          rw [hk] at hc'
          injection hc' with hc'
          subst hc'
          exact Int.le_refl _
        · have := h2 j (by omega) c' hc'
          omega
      · rename_i hlt
        rw [hl] at hlt
        refine ⟨h1, fun j hj c' hc' => ?_⟩
        by_cases e : j = k
        · subst e
          rw [hk] at hc'
          injection hc' with hc'
          subst hc'
          omega
        · exact h2 j (by omega) c' hc'
    · rename_i hk
      refine ⟨h1, fun j hj c' hc' => ?_⟩
      by_cases e : j = k
      · subst e
        rw [hk] at hc'
        simp at hc'
      · exact h2 j (by omega) c' hc'
theorem refHull_ring {R : Pts} (h : RingOK l R) : refHull l = R.map (num l) := by
  have hcs := corners_mem hc h
  have hlen := corners_len hc h
  have hlt := cornersTo_lt l l.length
  have h2 := h.len
  unfold refHull
  generalize cornersTo l l.length = cs at *
  cases cs with
  | nil => simp at hlen; omega
  | cons c cs =>
    simp only
    obtain ⟨f, hf⟩ : ∃ f, R[0]? = some f := ⟨_, List.getElem?_eq_getElem (by omega)⟩
    have hfR := List.mem_of_getElem? hf
    have hfl := h.sub f hfR
    obtain ⟨q1, q2⟩ := least_ok hc hlt (a := c) (by simp) (c :: cs).length
    have hle : leastTo l (c :: cs) c (c :: cs).length = num l f := by
      generalize leastTo l (c :: cs) c (c :: cs).length = z at *
      obtain ⟨y, hy, rfl⟩ := (hcs z).1 q1
      have hyl := h.sub y hy
      obtain ⟨j, hj, ej⟩ := List.mem_iff_getElem.1 ((hcs (num l f)).2 ⟨f, hfR, rfl⟩)
      have a1 := q2 j hj (num l f) (by rw [List.getElem?_eq_getElem hj, ej])
      rw [pN_num hyl, pN_num hfl] at a1
      have a2 := h.first f hf y hyl
      rw [K_inj (hc y hyl) (hc f hfl) (by omega)]
    rw [hle, hlen, goRound_ring hc h hcs R.length 0 f hf (by omega), List.drop_zero, List.take_length]
/-- All points are one. -/
theorem refHull_one (hl : l ≠ []) (hall : ∀ x ∈ l, ∀ y ∈ l, x = y) : ∃ z, ringL (hullS l) = [z] ∧ z ∈ l ∧ num l z = 0 ∧ refHull l = [0] := by
  have hcs : ∀ k, cornersTo l k = [] := fun k => by
    apply List.eq_nil_iff_forall_not_mem.2
    intro n hn
    have hb := ((cornersTo_mem l k n).1 hn).2
    unfold cornerB at hb
    split at hb
    · rename_i x hx
      rw [Bool.and_eq_true, List.any_eq_true] at hb
      obtain ⟨_, y, hy, h2⟩ := hb
      unfold goodK at h2
      rw [hall y hy x (List.mem_of_getElem? hx)] at h2
      simp [sameB] at h2
    · simp at hb
  have hs := hull_is hc
  have hne := hull_ne hc hl
  cases e : hullS l with
  | nil => exact absurd e hne
  | cons z t =>
    have hin : ∀ x ∈ hullS l, x ∈ l := fun x hx => corner_sub hc ((hs.mem x).1 hx)
    have hz : z ∈ l := hin z (by rw [e]; simp)
    have ht : t = [] := by
      cases t with
      | nil => rfl
      | cons y t =>
        have := hs.rising 0 1 z y (by rw [e]; rfl) (by rw [e]; rfl) (by omega)
        have e2 := hall z hz y (hin y (by rw [e]; simp))
        rw [e2] at this
        omega
    subst ht
    refine ⟨z, by simp [ringL], hz, ?_, ?_⟩
    · refine (num_of hz).1.one ⟨?_, fun j hj => by omega⟩
      cases l with
      | nil => exact absurd rfl hl
      | cons a l => rw [hall z hz a (by simp)]; rfl
    · unfold refHull
      rw [hcs, if_neg hl]
/-- plumbref's answer is the program's. -/
theorem refHull_same : hullN l = (refHull l).map fun (n : Nat) => Value.int .i64 (n : Int) := by
  by_cases hl : l = []
  · subst hl
    simp [hullN, refHull, cornersTo]
  · unfold hullN
    rw [if_neg hl]
    by_cases hall : ∀ x ∈ l, ∀ y ∈ l, x = y
    · obtain ⟨z, h1, h2, h3, h4⟩ := refHull_one hc hl hall
      rw [h1, h4]
      have := (num_of h2).2
      simp [numsOf, this, h3]
    · obtain ⟨a, b, ha, hb, hab⟩ : ∃ a b, a ∈ l ∧ b ∈ l ∧ K a < K b := by
        apply Classical.byContradiction
        intro hn
        apply hall
        intro x hx y hy
        refine K_inj (hc x hx) (hc y hy) ?_
        rcases Int.lt_trichotomy (K x) (K y) with h | h | h
        · exact absurd ⟨x, y, hx, hy, h⟩ hn
        · exact h
        · exact absurd ⟨y, x, hy, hx, h⟩ hn
      have h := ring_ok hc ha hb hab
      rw [refHull_ring hc h]
      simp only [numsOf, List.map_map]
      exact List.map_congr_left fun x hx => by rw [(num_of (h.sub x hx)).2]; rfl
end
end Go.Proofs.Ytgeoffpcmkofkaa
/- plumbref's 'Hull': its first loop. -/
namespace Go.Proofs.Ytgeoffpcmkofkaa
open Go.RowKit Fl Go.Lib
set_option maxRecDepth 100000
attribute [local go_sem ↓] Go.wp_at_zero Go.wp_at_succ

set_option maxHeartbeats 3200000 in
theorem refHull_any (g off cap : Nat) (l : Pts) (w : World) (hp : PtsAt w g off l) (hg : g < w.heap.size) (hl : l.length ≤ 1000) (hc : ∀ x ∈ l, CdP x) :
    Calls Try.prog 31 #[.slice (some ⟨g, off, none⟩) l.length cap] w fun e w' => ∃ v, e = .returned v ∧ Hid (New w w' ∧ OwnN w' w.heap.size v (refHull l)) := by
  have HP : Hid (PtsAt w g off l ∧ g < w.heap.size ∧ ∀ x ∈ l, CdP x) := ⟨hp, hg, hc⟩
  clear hp hg hc
  go_enter Try.func31, Try.ntmps31
  go_wp2_with fail
  go_loopw [3, 4] (fun v i wr => ∃ k : Nat, i = .int .i64 (k : Int) ∧ k ≤ l.length ∧ Hid (New w wr ∧ OwnN wr w.heap.size v (cornersTo l k))) (fun _ i _ => l.length - (intOf i).toNat)
  case atStart => exact ⟨0, rfl, Nat.zero_le _, New.refl _, OwnN.nil _ _⟩
  case round =>
    obtain ⟨k, rfl, hk, H⟩ := hrel
    rcases Nat.lt_or_ge k l.length with hk' | hk'
    · have c1 : (k : Int) < (l.length : Int) := by omega
      have hw1 : IntKind.i64.wrap ((k : Int) + 1) = (k : Int) + 1 := by rw [IntKind.wrap_i64]; omega
      go_wp2_with fail
      refine (corner_any g off cap l k wr (HP.out.1.kept HP.out.2.1 H.out.1) (Nat.lt_of_lt_of_le HP.out.2.1 H.out.1.size) (by omega) hk' HP.out.2.2).mono ?_
      rintro e w2 ⟨rfl, H2⟩
      cases hb : cornerB l k with
      | false =>
        have HE : Hid (cornersTo l (k + 1) = cornersTo l k) := by rw [Hid, cornersTo, hb]; rfl
        go_wp2_with fail
        go_roundw
        case rel => exact ⟨k + 1, by go_num, hk', H.out.1.trans' H2.out, by rw [HE.out]; exact H.out.2.new H2.out⟩
        case measure => simp [intOf]; omega
      | true =>
        have HE : Hid (cornersTo l (k + 1) = cornersTo l k ++ [k]) := by rw [Hid, cornersTo, hb]; rfl
        obtain ⟨vk, wk, k1, R⟩ := OwnN.push (H.out.1.trans' H2.out) (H.out.2.new H2.out) k (by have := cornersTo_len l k; omega)
        rw [← HE.out] at R
        clear HE hb
        go_wp2_with (first | (at_builtin; refine Go.Lib.wpList_append_run _ rfl _ _ 46 46 rfl _ _ rfl rfl vk wk k1 ?_) | go_in)
        go_roundw
        case rel => exact ⟨k + 1, by go_num, hk', R.out⟩
        case measure => simp [intOf]; omega
    · have e : k = l.length := by omega
      subst e
      have HCS : Hid (cornersTo l l.length = cornersTo l l.length) := rfl
      obtain ⟨cs, hcs⟩ : ∃ cs, cs = cornersTo l l.length := ⟨_, rfl⟩
      have HS : Hid (cs = cornersTo l l.length ∧ cs.length ≤ l.length ∧ ∀ n ∈ cs, n < l.length) := ⟨hcs, by rw [hcs]; exact cornersTo_len l _, by rw [hcs]; exact cornersTo_lt l _⟩
      rw [← hcs] at H
      clear hcs HCS
      cases cs with
      | nil =>
        obtain ⟨ad, c0, hv⟩ : ∃ ad c0, u3 = .slice ad 0 c0 := by
          rcases H.out.2.form with ⟨e1, _⟩ | ⟨g2, c2, e1, _⟩
          · exact ⟨none, 0, e1⟩
          · exact ⟨_, c2, e1⟩
        subst hv
        by_cases hz : l = []
        · have HE : Hid (refHull l = []) := by rw [Hid, refHull, ← HS.out.1]; simp [hz]
          have hz0 : l.length = 0 := by rw [hz]; rfl
          have hz1 : ¬(0 : Int) < (l.length : Int) := by omega
          clear hz
          go_wp2_with fail
          go_ret
          exact ⟨_, rfl, H.out.1, by rw [HE.out]; exact OwnN.nil _ _⟩
        · have HE : Hid (refHull l = [0]) := by rw [Hid, refHull, ← HS.out.1]; simp [hz]
          have hz1 : (0 : Int) < (l.length : Int) := by have := List.length_pos_iff.2 hz; omega
          have HO : Hid (OwnN (wr.alloc (.cells #[.int .i64 0] 3)) w.heap.size (.slice (some ⟨wr.heap.size, 0, none⟩) 1 1) [0]) := World.ownsRow_lit wr #[.int .i64 0] 1 H.out.1.size (by unfold maxLen; omega) (by simp)
          go_wp2_with fail
          go_ret
          exact ⟨_, rfl, H.out.1.alloc' _, by rw [HE.out]; exact HO.out⟩
      | cons c cs =>
        rcases H.out.2.form with ⟨_, e2⟩ | ⟨gc, cc, e1, hgb, hgl⟩
        · simp at e2
        · subst e1
          obtain ⟨L, hL⟩ : ∃ L, L = c :: cs := ⟨_, rfl⟩
          have h0 : L[0]? = some c := by rw [hL]; rfl
          have hpos : 0 < L.length := by rw [hL]; simp
          have HE : Hid (refHull l = goRound l L (leastTo l L c L.length) L.length) := by
            unfold Hid refHull
            rw [← HS.out.1]
            subst hL
            rfl
          rw [← hL] at H HS ⊢
          clear hL
          have HNu : Hid (∀ V, New wr V → NumsAt V gc L) := fun V hV => (H.out.2.new hV).nums
          have HF : Hid (∀ V, New wr V → ∀ n, n < l.length → V.cell? ⟨g, off + n * 2, none⟩ = some (.int .i64 (pN l n).1) ∧ V.cell? ⟨g, off + n * 2 + 1, none⟩ = some (.int .i64 (pN l n).2)) := fun V hV n hn => by
            have := HP.out.1.kept HP.out.2.1 (H.out.1.trans' hV) n hn
            rw [show pN l n = l[n] by simp [pN, hn]]
            exact this
          have HLt : Hid (∀ k, leastTo l L c k < l.length) := fun k => by
            induction k with
            | zero => exact HS.out.2.2 c (List.mem_of_getElem? h0)
            | succ k ih =>
              unfold leastTo
              split
              · rename_i c' hc'
                split
                · exact HS.out.2.2 c' (List.mem_of_getElem? hc')
                · exact ih
              · exact ih
          have x0 := HNu.out wr (New.refl _) 0 c h0
          have p1 : (0 : Int) < (L.length : Int) := by omega
          have p2 : ¬(L.length : Int) = 0 := by omega
          have p3 : ((L.length : Int) == 0) = false := by simpa using p2
          go_wp2_with fail
          go_loopw [6, 7] (fun a v w2 => ∃ m : Nat, a = .int .i64 (leastTo l L c m : Int) ∧ v = .int .i64 (m : Int) ∧ m ≤ L.length ∧ Hid (New wr w2)) (fun _ v _ => L.length - (intOf v).toNat)
          case atStart => exact ⟨0, rfl, rfl, Nat.zero_le _, New.refl _⟩
          case round =>
            obtain ⟨m, rfl, rfl, hm, HN2⟩ := hrel
            rcases Nat.lt_or_ge m L.length with hm' | hm'
            · obtain ⟨d, hd⟩ : ∃ d, L[m]? = some d := ⟨_, List.getElem?_eq_getElem hm'⟩
              have HD : Hid (L[m]? = some d) := hd
              have hdl : d < l.length := HS.out.2.2 d (List.mem_of_getElem? hd)
              have y0 := HNu.out wr HN2.out m d hd
              have y1 := HF.out wr HN2.out d hdl
              obtain ⟨t, ht⟩ : ∃ t, t = leastTo l L c m := ⟨_, rfl⟩
              have htl : t < l.length := by rw [ht]; exact HLt.out m
              have HT : Hid (t = leastTo l L c m) := ht
              rw [← ht]
              clear ht hd x0
              obtain ⟨y1, y2⟩ := y1
              obtain ⟨pd, hpd⟩ : ∃ pd, pd = pN l d := ⟨_, rfl⟩
              obtain ⟨pt, hpt⟩ : ∃ pt, pt = pN l t := ⟨_, rfl⟩
              have HPd : Hid (pd = pN l d ∧ pt = pN l t) := ⟨hpd, hpt⟩
              have z1 := HF.out (wr.alloc (.cells #[.int .i64 pd.1, .int .i64 pd.2] 23)) (HN2.out.alloc' _) t htl
              rw [← hpd] at y1 y2
              rw [← hpt] at z1
              obtain ⟨z1, z2⟩ := z1
              clear hpd hpt
              have u1 : (wr.alloc (.cells #[.int .i64 pd.1, .int .i64 pd.2] 23)).cell? ⟨wr.heap.size, 0, none⟩ = some (.int .i64 pd.1) := by go_simp
              have u2 : (wr.alloc (.cells #[.int .i64 pd.1, .int .i64 pd.2] 23)).cell? ⟨wr.heap.size, 1, none⟩ = some (.int .i64 pd.2) := by go_simp
              have i0 : (0 : Int) ≤ (m : Int) := by omega
              have i1 : (m : Int) < (L.length : Int) := by omega
              have i2 : (0 : Int) ≤ (d : Int) := by omega
              have i3 : (d : Int) < (l.length : Int) := by omega
              have i4 : (0 : Int) ≤ (t : Int) := by omega
              have i5 : (t : Int) < (l.length : Int) := by omega
              have hw1 : IntKind.i64.wrap ((m : Int) + 1) = (m : Int) + 1 := by rw [IntKind.wrap_i64]; have := HS.out.2.1; omega
              have v0 : (wr.alloc (.cells #[.int .i64 pd.1, .int .i64 pd.2] 23)).cell? ⟨gc, m, none⟩ = some (.int .i64 (d : Int)) := HNu.out _ (HN2.out.alloc' _) m d HD.out
              have v1 : ∀ q, ((wr.alloc (.cells #[.int .i64 pd.1, .int .i64 pd.2] 23)).drewN q).cell? ⟨gc, m, none⟩ = some (.int .i64 (d : Int)) := fun q => HNu.out _ ((HN2.out.alloc' _).drewN q) m d HD.out
              by_cases q1 : pd.1 < pt.1
              · have HL : Hid (leastTo l L c (m + 1) = d) := by simp [Hid, leastTo, HD.out, lessP, ← HT.out, ← HPd.out.1, ← HPd.out.2, q1]
                have r1 : decide (pd.1 < pt.1) = true := decide_eq_true q1
                go_wp2_with fail
                go_quiet (fail)
                go_wp2_with fail
                go_roundw
                case rel => exact ⟨m + 1, by rw [HL.out], by go_num, hm', (HN2.out.alloc' _).drewN _⟩
                case measure => simp [intOf]; omega
              · have r1 : decide (pd.1 < pt.1) = false := decide_eq_false q1
                by_cases q2 : pd.1 = pt.1
                · have r2 : (pd.1 == pt.1) = true := by simpa using q2
                  by_cases q3 : pd.2 < pt.2
                  · have HL : Hid (leastTo l L c (m + 1) = d) := by simp [Hid, leastTo, HD.out, lessP, ← HT.out, ← HPd.out.1, ← HPd.out.2, q2, q3]
                    have r3 : decide (pd.2 < pt.2) = true := decide_eq_true q3
                    clear q2
                    go_wp2_with fail
                    go_quiet (fail)
                    go_wp2_with fail
                    go_roundw
                    case rel => exact ⟨m + 1, by rw [HL.out], by go_num, hm', (HN2.out.alloc' _).drewN _⟩
                    case measure => simp [intOf]; omega
                  · have HL : Hid (leastTo l L c (m + 1) = t) := by simp [Hid, leastTo, HD.out, lessP, ← HT.out, ← HPd.out.1, ← HPd.out.2, q2, q3]
                    have r3 : decide (pd.2 < pt.2) = false := decide_eq_false q3
                    clear q2
                    go_wp2_with fail
                    go_quiet (fail)
                    go_wp2_with fail
                    go_roundw
                    case rel => exact ⟨m + 1, by rw [HL.out], by go_num, hm', (HN2.out.alloc' _).drewN _⟩
                    case measure => simp [intOf]; omega
                · have r2 : (pd.1 == pt.1) = false := by simpa using q2
                  have HL : Hid (leastTo l L c (m + 1) = t) := by simp [Hid, leastTo, HD.out, lessP, ← HT.out, ← HPd.out.1, ← HPd.out.2, q1, q2]
                  go_wp2_with fail
                  go_quiet (fail)
                  go_wp2_with fail
                  go_roundw
                  case rel => exact ⟨m + 1, by rw [HL.out], by go_num, hm', (HN2.out.alloc' _).drewN _⟩
                  case measure => simp [intOf]; omega
            · have e : m = L.length := by omega
              subst e
              obtain ⟨t0, ht0⟩ : ∃ t0, t0 = leastTo l L c L.length := ⟨_, rfl⟩
              have ht0l : t0 < l.length := by rw [ht0]; exact HLt.out _
              have HR0 : Hid (refHull l = goRound l L t0 L.length) := by rw [Hid, HE.out, ht0]
              rw [← ht0]
              clear ht0 x0
              obtain ⟨wo, rfl⟩ : ∃ wo, wo = wr := ⟨_, rfl⟩
              go_wp2_with fail
              go_loopw [6, 9, 10] (fun a v n w3 => ∃ (m b : Nat) (pre : List Nat), a = .int .i64 (b : Int) ∧ n = .int .i64 (m : Int) ∧ m ≤ L.length ∧ b < l.length ∧ Hid (New wo w3 ∧ OwnN w3 wo.heap.size v pre ∧ pre.length = m ∧ refHull l = pre ++ goRound l L b (L.length - m))) (fun _ _ n _ => L.length - (intOf n).toNat)
              case atStart => exact ⟨0, t0, [], rfl, rfl, Nat.zero_le _, ht0l, New.refl _, OwnN.nil _ _, rfl, by rw [HR0.out]; rfl⟩
              case round =>
                obtain ⟨m, b, pre, rfl, rfl, hm, hbl, HM⟩ := hrel
                rcases Nat.lt_or_ge m L.length with hm' | hm'
                · obtain ⟨vk, wk, k1, R⟩ := OwnN.push HM.out.1 HM.out.2.1 b (by have := HM.out.2.2.1; have := HS.out.2.1; omega)
                  have HWk : Hid (New w wk ∧ NumsAt wk gc L) := ⟨(H.out.1.trans' HN2.out).trans' R.out.1, HNu.out wk (HN2.out.trans' R.out.1)⟩
                  have hw1 : IntKind.i64.wrap ((m : Int) + 1) = (m : Int) + 1 := by rw [IntKind.wrap_i64]; have := HS.out.2.1; omega
                  have i1 : (m : Int) < (L.length : Int) := by omega
                  have HX : Hid (nextN l L b < l.length) := by
                    unfold Hid nextN
                    cases hf : L.find? (nextB l L b) with
                    | none => exact hbl
                    | some n => exact HS.out.2.2 n (List.mem_of_find?_eq_some hf)
                  have HG : Hid (refHull l = (pre ++ [b]) ++ goRound l L (nextN l L b) (L.length - (m + 1))) := by
                    rw [Hid, HM.out.2.2.2, show L.length - m = (L.length - (m + 1)) + 1 by omega]
                    simp [goRound]
                  go_wp2_with (first | (at_builtin; refine Go.Lib.wpList_append_run _ rfl _ _ 46 46 rfl _ _ rfl rfl vk wk k1 ?_) | fail)
                  refine (next_any g off cap gc cc l L b wk (HP.out.1.kept HP.out.2.1 HWk.out.1) (Nat.lt_of_lt_of_le HP.out.2.1 HWk.out.1.size) HP.out.2.2 hbl HWk.out.2 HS.out.2.2 (by have := HS.out.2.1; omega)).mono ?_
                  rintro e w6 ⟨rfl, H6⟩
                  go_wp2_with fail
                  go_roundw
                  case rel => exact ⟨m + 1, nextN l L b, pre ++ [b], rfl, by go_num, hm', HX.out, R.out.1.trans' H6.out, R.out.2.new H6.out, by simp [HM.out.2.2.1], HG.out⟩
                  case measure => simp [intOf]; omega
                · have e : m = L.length := by omega
                  subst e
                  have HG : Hid (refHull l = pre) := by rw [Hid, HM.out.2.2.2, Nat.sub_self]; simp [goRound]
                  have HB : Hid (w.heap.size ≤ wo.heap.size) := (H.out.1.trans' HN2.out).size
                  go_wp2_with fail
                  go_ret
                  refine ⟨_, rfl, (H.out.1.trans' HN2.out).trans' HM.out.1, ?_⟩
                  rw [HG.out]
                  exact ⟨HM.out.2.1.1, HM.out.2.1.2.imp id fun ⟨g, cap, cur, h1, h2, h3⟩ => ⟨g, cap, cur, h1, Nat.le_trans HB.out h2, h3⟩⟩
end Go.Proofs.Ytgeoffpcmkofkaa
/- plumbref's 'Hull' of any list. -/
namespace Go.Proofs.Ytgeoffpcmkofkaa
open Go.RowKit Fl Go.Lib
set_option maxRecDepth 100000

set_option maxHeartbeats 400000 in
theorem refHull_none (ao : Option Addr) (cap : Nat) (w : World) :
    Calls Try.prog 31 #[.slice ao 0 cap] w fun e w' => e = .returned (.slice none 0 0) ∧ Hid (New w w') := by
  go_enter Try.func31, Try.ntmps31
  go_wp2_with fail
  go_loopw [3, 4] (fun v i wr => v = .slice none 0 0 ∧ i = .int .i64 0 ∧ w = wr) (fun _ _ _ => 0)
  case atStart => exact ⟨rfl, rfl, rfl⟩
  case round =>
    obtain ⟨rfl, rfl, rfl⟩ := hrel
    go_wp2_with fail
    go_ret
    exact ⟨rfl, New.refl _⟩
theorem goRound_len (l : Pts) (cs : List Nat) : ∀ (k a : Nat), (goRound l cs a k).length = k
  | 0, _ => rfl
  | k + 1, a => by unfold goRound; rw [List.length_cons, goRound_len l cs k]
theorem refHull_len (l : Pts) : (refHull l).length ≤ l.length := by
  have h := cornersTo_len l l.length
  unfold refHull
  split
  · split
    · simp
    · rename_i hn
      have := List.length_pos_iff.2 hn
      simp
      omega
  · rename_i c cs e
    rw [e] at h
    rw [goRound_len]
    exact h
/-- .. of any list. -/
theorem refHull_poly (ao : Option Addr) (cap : Nat) (l : Pts) (w : World) (h : PolyAt w ao l) (hl : l.length ≤ 1000) (hc : ∀ x ∈ l, CdP x) :
    Calls Try.prog 31 #[.slice ao l.length cap] w fun e w' => ∃ v, e = .returned v ∧ Hid (New w w' ∧ OwnN w' w.heap.size v (refHull l)) := by
  by_cases hn : l = []
  · subst hn
    refine (refHull_none ao cap w).mono ?_
    rintro e w' ⟨rfl, H⟩
    exact ⟨_, rfl, H.out, by simpa [refHull, cornersTo] using OwnN.nil w' w.heap.size⟩
  · obtain ⟨g, off, rfl, hp, hg⟩ := h (List.length_pos_iff.2 hn)
    exact refHull_any g off cap l w hp hg hl hc
end Go.Proofs.Ytgeoffpcmkofkaa
/- For Hulls: what stands between its calls. -/
namespace Go.Proofs.Ytgeoffpcmkofkaa
open Go Go.Conc Go.RowKit Fl Go.Maps Go.Joins
set_option maxRecDepth 100000

/-- What plumb.Hull answers. -/
def ansL (l : Pts) : List Nat := if errL l = 0 then refHull l else []
theorem ansL_len (l : Pts) : (ansL l).length ≤ 40 := by
  unfold ansL
  split
  · rename_i h
    have := refHull_len l
    have := (errL_zero h).1
    omega
  · simp
/-- plumb.Hull, told once. -/
theorem A.hullA {Post : Value → World → Prop} {lv : Value} {l : Pts} {w : World} {x : Frame} {cs : List Frame} (hlv : RowL w lv l) (hG : GN ≤ w.heap.size)
    (h : ∀ v w', Kept w w' → OwnN w' w.heap.size v (ansL l) → A Try.prog Post (x.finish (.tuple #[v, .int .i64 (errL l)])) cs w') :
    A Try.prog Post (Frame.enter Try.prog 32 #[lv] .normal) (x :: cs) w := by
  refine A.hull hlv hG (fun he w' hk => h _ w' hk ?_) (fun he v w' hO => ?_)
  · unfold ansL
    rw [if_neg he]
    exact OwnN.nil _ _
  · have := h v w' hO.kept (by
      unfold ansL OwnN
      rw [if_pos he]
      have e := refHull_same (errL_zero he).2
      have r := hO.row
      rw [e] at r
      simpa using r)
    rw [he] at this
    exact this
theorem OwnN.ints {w : World} {base : Nat} {v : Value} {cs : List Nat} (h : OwnN w base v cs) : ∃ ao c, v = .slice ao (cs.map fun (n : Nat) => (n : Int)).length c ∧ IntsAt w ao (cs.map fun (n : Nat) => (n : Int)) := by
  rcases h.form with ⟨e, e2⟩ | ⟨g, cap, e, _, _⟩
  · subst e2
    exact ⟨none, 0, e, fun h0 => by simp at h0⟩
  · refine ⟨_, cap, by rw [List.length_map]; exact e, fun _ => ⟨g, rfl, fun i x hx => ?_⟩⟩
    subst e
    rw [List.getElem?_map] at hx
    obtain ⟨n, hn, rfl⟩ := Option.map_eq_some_iff.1 hx
    exact h.nums i n hn
/-- The blocks below a bound are kept. -/
structure KeptTo (N : Nat) (w w' : World) : Prop where
  os : w'.os = w.os
  output : w'.output = w.output
  size : w.heap.size ≤ w'.heap.size
  block : ∀ r, r < N → w'.heap[r]? = w.heap[r]?
theorem KeptTo.refl (N : Nat) (w : World) : KeptTo N w w := ⟨rfl, rfl, Nat.le_refl _, fun _ _ => rfl⟩
theorem KeptTo.trans {N : Nat} {w w1 w2 : World} (h : KeptTo N w w1) (k : KeptTo N w1 w2) : KeptTo N w w2 := ⟨k.os.trans h.os, k.output.trans h.output, Nat.le_trans h.size k.size, fun r hr => (k.block r hr).trans (h.block r hr)⟩
theorem Kept.to {N : Nat} {w w' : World} (h : Kept w w') (hN : N ≤ w.heap.size) : KeptTo N w w' := ⟨h.os, h.output, h.size, fun r hr => h.block r (by omega)⟩
theorem KeptTo.same {N : Nat} {w w1 w2 : World} (h : KeptTo N w w1) (k : Same w1 w2) : KeptTo N w w2 := h.trans ⟨k.os, k.output, by rw [k.heap]; exact Nat.le_refl _, fun r _ => by rw [k.heap]⟩
theorem KeptTo.grown {N : Nat} {w w' : World} {row : Option Nat} (h : w.grownBy w' row) (hN : N ≤ w.heap.size) (hr : ∀ g, row = some g → N ≤ g) : KeptTo N w w' :=
  ⟨h.os, h.output, h.size, fun r hr' => h.block r (by omega) fun e => by have := hr r e.symm; omega⟩
theorem KeptTo.kept {N : Nat} {W w w' : World} (h : Kept W w) (k : KeptTo N w w') (hN : W.heap.size ≤ N) : Kept W w' :=
  ⟨k.os.trans h.os, k.output.trans h.output, Nat.le_trans h.size k.size, fun r hr => (k.block r (by omega)).trans (h.block r hr)⟩
theorem OwnN.to {w w' : World} {base N : Nat} {v : Value} {cs : List Nat} (h : OwnN w base v cs) (k : KeptTo N w w') (hN : ∀ g, v.ownBlock = some g → g < N) : OwnN w' base v cs := by
  refine ⟨h.1, ?_⟩
  rcases h.2 with ⟨e, hn⟩ | ⟨g, cap, cur, e, hb, hg, rest⟩
  · exact .inl ⟨e, hn⟩
  · exact .inr ⟨g, cap, cur, e, hb, by rw [k.block g (hN g (by rw [e]; rfl))]; exact hg, rest⟩
theorem OwnN.lt {w : World} {base : Nat} {v : Value} {cs : List Nat} (h : OwnN w base v cs) : ∀ g, v.ownBlock = some g → base ≤ g ∧ g < w.heap.size := by
  intro g hg
  rcases h.form with ⟨e, _⟩ | ⟨g', cap, e, h1, h2⟩
  · rw [e] at hg; cases hg
  · rw [e] at hg
    injection hg with hg
    subst hg
    exact ⟨h1, h2⟩
theorem OwnN.le {w : World} {base base' : Nat} {v : Value} {cs : List Nat} (h : OwnN w base v cs) (hb : base' ≤ base) : OwnN w base' v cs := ownsRow_le h hb
theorem PolyAt.keptB {w w' : World} {ao : Option Addr} {l : Pts} (h : PolyAt w ao l) (k : Kept w w') : PolyAt w' ao l := fun h0 => by
  obtain ⟨g, off, h1, h2, h3⟩ := h h0
  exact ⟨g, off, h1, h2.heap (k.block g h3), Nat.lt_of_lt_of_le h3 k.size⟩
/-- What stands behind 'lent'. -/
structure S9 (W : World) (ao : Option Addr) (cap : Nat) (l : Pts) (wv inV : Value) (b N : Nat) (w : World) : Prop where
  kept : Kept W w
  n1 : W.heap.size ≤ N
  n2 : N ≤ w.heap.size
  b2 : b < N
  gb : GN ≤ b
  want : OwnN w W.heap.size wv (ansL l)
  wantN : ∀ g, wv.ownBlock = some g → g < N
  blk : w.heap[b]? = some (.cells (flatP (l ++ [(0, 0)])).toArray 23 (0, 0))
  inF : (inV = .slice none 0 0 ∧ l = []) ∨ inV = .slice (some ⟨b, 0, none⟩) l.length (l.length + 1)
  poly : PolyAt W ao l
  cap1 : l.length ≤ cap
  cap2 : cap ≤ 10000000000000
section
variable {W : World} {ao : Option Addr} {cap : Nat} {l : Pts} {wv inV : Value} {b N : Nat} {w w' : World}
theorem S9.to (h : S9 W ao cap l wv inV b N w) (k : KeptTo N w w') : S9 W ao cap l wv inV b N w' :=
  ⟨k.kept h.kept h.n1, h.n1, Nat.le_trans h.n2 k.size, h.b2, h.gb, h.want.to k h.wantN, h.wantN, by rw [k.block b h.b2]; exact h.blk, h.inF, h.poly, h.cap1, h.cap2⟩
theorem S9.all (h : S9 W ao cap l wv inV b N w) : PtsAt w b 0 (l ++ [(0, 0)]) := pts_row h.blk rfl
theorem S9.args (h : S9 W ao cap l wv inV b N w) : PolyAt w ao l := h.poly.keptB h.kept
theorem flatP_ints : ∀ (l : Pts), ∀ x ∈ flatP l, ∃ n, x = .int .i64 n
  | [], x, h => by simp [flatP] at h
  | p :: l, x, h => by
    simp only [flatP, List.mem_cons] at h
    rcases h with rfl | rfl | h
    · exact ⟨_, rfl⟩
    · exact ⟨_, rfl⟩
    · exact flatP_ints l x h
theorem S9.row (h : S9 W ao cap l wv inV b N w) : RowL w inV l := by
  rcases h.inF with ⟨h1, h2⟩ | h1
  · exact .inl ⟨h1, h2⟩
  · refine .inr ⟨b, l.length + 1, _, h1, by omega, h.blk, fun x hx => flatP_ints _ x (by simpa using hx), h.gb, fun i hi => ?_⟩
    have := flatP_get (l ++ [(0, 0)]) i (by simp; omega)
    rw [List.getElem_append_left hi] at this
    simpa using this
end
/-- 'lent', of any list. -/
theorem lent_poly (ao : Option Addr) (cap : Nat) (l : Pts) (w : World) (h : PolyAt w ao l) (hs : cap ≤ 10000000000000) (hc : l.length ≤ cap) (hn : ao = none → cap = 0) :
    Calls Try.prog 26 #[.slice ao l.length cap] w fun e w' => ∃ inV, e = .returned (.tuple #[.slice (some ⟨w.heap.size, 0, none⟩) (l.length + 1) (l.length + 1), inV]) ∧ ((inV = .slice none 0 0 ∧ l = []) ∨ inV = .slice (some ⟨w.heap.size, 0, none⟩) l.length (l.length + 1)) ∧ Hid (Lent w w' l) := by
  cases ao with
  | none =>
    have hcap := hn rfl
    have hl : l = [] := List.eq_nil_of_length_eq_zero (by omega)
    subst hl hcap
    refine (lent_nil w).mono ?_
    rintro e w' ⟨rfl, H⟩
    exact ⟨_, rfl, .inl ⟨rfl, rfl⟩, H⟩
  | some a =>
    refine (lent_some a cap l w h hs hc).mono ?_
    rintro e w' ⟨rfl, H⟩
    exact ⟨_, rfl, .inr rfl, H⟩
theorem Lent.heap {w w1 w2 : World} {l : Pts} (h : Lent w w1 l) (k : Same w1 w2) : w2.heap[w.heap.size]? = some (.cells (flatP (l ++ [(0, 0)])).toArray 23 (0, 0)) := by rw [k.heap]; exact h.row
end Go.Proofs.Ytgeoffpcmkofkaa
/- The walk of Hulls, beside goroutines that only leave. (Made by gen9.py.) -/
namespace Go.Proofs.Ytgeoffpcmkofkaa
open Go Go.Conc Go.RowKit Fl Go.Maps Go.Lib Go.Joins
set_option maxRecDepth 100000
attribute [local go_sem ↓] Go.wp_at_zero Go.wp_at_succ

noncomputable def c9b : Code := match Try.f9.body with
  | some (.seq _ (.seq _ (.seq _ (.seq _ r)))) => r
  | _ => .skip
noncomputable def c9l : Code := match c9b with
  | .seq _ (.seq _ (.seq _ (.seq _ (.seq r _)))) => r
  | _ => .skip
noncomputable def c9c : Code := match c9b with
  | .seq _ (.seq _ (.seq _ (.seq _ (.seq _ r)))) => r
  | _ => .skip
noncomputable def c9s : Code := match c9c with
  | .seq r _ => r
  | _ => .skip
noncomputable def c9d : Code := match c9c with
  | .seq _ r => r
  | _ => .skip
noncomputable def c9r : Code := match c9d with
  | .seq _ r => r
  | _ => .skip
theorem codeP9l : CodeP Try.prog (FSof fsI) c9l := codeP_sound (by kernel_rfl)
theorem codeP9s : CodeP Try.prog (FSof fsI) c9s := codeP_sound (by kernel_rfl)
theorem codeP9r : CodeP Try.prog (FSof fsI) c9r := codeP_sound (by kernel_rfl)
theorem fs30 : FSof fsI 30 := by decide
theorem fs31 : FSof fsI 31 := by decide
theorem fs26 : FSof fsI 26 := by decide
theorem fs28 : FSof fsI 28 := by decide
theorem fs33 : FSof fsI 33 := by decide
theorem OwnN.same {w w' : World} {base : Nat} {v : Value} {cs : List Nat} (h : OwnN w base v cs) (k : Same w w') : OwnN w' base v cs := by
  refine ⟨h.1, ?_⟩
  rcases h.2 with ⟨e, hn⟩ | ⟨g, cap, cur, e, hb, hg, rest⟩
  · exact .inl ⟨e, hn⟩
  · exact .inr ⟨g, cap, cur, e, hb, by rw [k.heap]; exact hg, rest⟩
theorem ownsRow_to {w w' : World} {base N n size : Nat} {e : TypeId} {v : Value} {xs : List Value} (h : w.ownsRow base e size v n xs) (k : KeptTo N w w') (hN : ∀ g, v.ownBlock = some g → g < N) : w'.ownsRow base e size v n xs := by
  refine ⟨h.1, ?_⟩
  rcases h.2 with ⟨e, hn⟩ | ⟨g, cap, cur, e, hb, hg, rest⟩
  · exact .inl ⟨e, hn⟩
  · exact .inr ⟨g, cap, cur, e, hb, by rw [k.block g (hN g (by rw [e]; rfl))]; exact hg, rest⟩
theorem ownsRow_same {w w' : World} {base n size : Nat} {e : TypeId} {v : Value} {xs : List Value} (h : w.ownsRow base e size v n xs) (k : Same w w') : w'.ownsRow base e size v n xs := by
  refine ⟨h.1, ?_⟩
  rcases h.2 with ⟨e, hn⟩ | ⟨g, cap, cur, e, hb, hg, rest⟩
  · exact .inl ⟨e, hn⟩
  · exact .inr ⟨g, cap, cur, e, hb, by rw [k.heap]; exact hg, rest⟩
theorem ownsRow_blk {w : World} {base n size : Nat} {e : TypeId} {v : Value} {xs : List Value} (h : w.ownsRow base e size v n xs) : ∀ g, v.ownBlock = some g → base ≤ g ∧ g < w.heap.size := by
  intro g hg
  rcases h.2 with ⟨e, _⟩ | ⟨g', cap, cur, e, hb, hg', _⟩
  · rw [e] at hg; cases hg
  · rw [e] at hg
    injection hg with hg
    subst hg
    exact ⟨hb, (Array.getElem?_eq_some_iff.1 hg').1⟩
/-- Where a loop stands that writes one number into a row. -/
structure FillI (w0 wr : World) (base n : Nat) (v c : Value) (k : Nat) (xs : List Value) : Prop where
  gr : w0.grownBy wr v.ownBlock
  own : wr.ownsRow base 3 1 v n xs
  done : xs.take k = List.replicate k c
theorem FillI.put {w0 wr : World} {base n g cap : Nat} {c : Value} {k : Nat} {xs : List Value} (h : FillI w0 wr base n (.slice (some ⟨g, 0, none⟩) n cap) c k xs) (hk : k < n) : FillI w0 (wr.setCell ⟨g, k, none⟩ c) base n (.slice (some ⟨g, 0, none⟩) n cap) c (k + 1) (xs.set k c) := by
  have hs := World.ownsRow.stored h.own k c
  refine ⟨h.gr.trans hs.2, hs.1, ?_⟩
  have hx : xs.length = n := by have := h.own.1; omega
  rw [List.take_add_one, List.take_set_of_le (Nat.le_refl _), h.done, List.replicate_succ']
  simp [hx, hk]
theorem FillI.all {w0 wr : World} {base n : Nat} {v c : Value} {xs : List Value} (h : FillI w0 wr base n v c n xs) : wr.ownsRow base 3 1 v n (List.replicate n c) := by
  have h1 := h.done
  have h2 : xs.length = n := by have := h.own.1; omega
  rw [List.take_of_length_le (by omega)] at h1
  rw [← h1]
  exact h.own

/-- Behind the first loop. -/
def QL9 (ao : Option Addr) (cap : Nat) (l : Pts) (wv inV v : Value) (b : Nat) (t20 t21 t22 t23 t24 t25 t26 t27 t28 t29 t30 t31 t32 t33 t34 t35 t36 t37 t38 t39 t40 t41 : Value) (F : World → Prop) (a : Act) (w : World) : Prop :=
  ∃ t11 t42 t43 t44 t45 t46 t47 t48 t49 t50, a = { tmps := #[.slice ao l.length cap, undef, .bool false, .int .i64 (errL l), wv, .slice (some ⟨b, 0, none⟩) (l.length + 1) (l.length + 1), inV, v, .int .i64 (errL l), .bool true, .bool true, t11, undef, undef, undef, undef, undef, undef, undef, undef, t20, t21, t22, t23, t24, t25, t26, t27, t28, t29, t30, t31, t32, t33, t34, t35, t36, t37, t38, t39, t40, t41, t42, t43, t44, t45, t46, t47, t48, t49, t50, undef, undef, undef, undef, undef, undef, undef, undef, undef, undef, undef, undef, undef, undef, undef, undef, undef, undef, undef, undef, undef, undef, undef, undef, undef, undef, undef, undef, undef, undef, undef, undef, undef, undef, undef, undef, undef, undef, undef, undef, undef, undef, undef, undef, undef, undef, undef, undef, undef, undef, undef, undef, undef, undef, undef, undef, undef, undef, undef, undef, undef, undef, undef, undef, undef, undef, undef, undef, undef, undef, undef, undef, undef, undef, undef, undef, undef, undef, undef, undef, undef, undef, undef, undef, undef, undef, undef, undef, undef, undef, undef, undef, undef], defers := [] } ∧ F w
set_option maxHeartbeats 1600000 in
theorem loop9 (ao : Option Addr) (cap : Nat) (l : Pts) (wv inV v : Value) (b base n : Nat) (xs : List Value) (w : World) (ho : w.ownsRow base 3 1 v n xs) (hn : n ≤ 1000000) (F : World → Prop) (hF : ∀ w', w.grownBy w' v.ownBlock → w'.ownsRow base 3 1 v n (List.replicate n (.int .i64 (-1))) → F w') (t20 t21 t22 t23 t24 t25 t26 t27 t28 t29 t30 t31 t32 t33 t34 t35 t36 t37 t38 t39 t40 t41 : Value) :
    c9l.wp Try.prog (fun e a w' => e = .normal ∧ QL9 ao cap l wv inV v b t20 t21 t22 t23 t24 t25 t26 t27 t28 t29 t30 t31 t32 t33 t34 t35 t36 t37 t38 t39 t40 t41 F a w')
      { tmps := #[.slice ao l.length cap, undef, .bool false, .int .i64 (errL l), wv, .slice (some ⟨b, 0, none⟩) (l.length + 1) (l.length + 1), inV, v, .int .i64 (errL l), .bool true, .bool true, undef, undef, undef, undef, undef, undef, undef, undef, undef, t20, t21, t22, t23, t24, t25, t26, t27, t28, t29, t30, t31, t32, t33, t34, t35, t36, t37, t38, t39, t40, t41, undef, undef, undef, undef, undef, undef, undef, undef, undef, undef, undef, undef, undef, undef, undef, undef, undef, undef, undef, undef, undef, undef, undef, undef, undef, undef, undef, undef, undef, undef, undef, undef, undef, undef, undef, undef, undef, undef, undef, undef, undef, undef, undef, undef, undef, undef, undef, undef, undef, undef, undef, undef, undef, undef, undef, undef, undef, undef, undef, undef, undef, undef, undef, undef, undef, undef, undef, undef, undef, undef, undef, undef, undef, undef, undef, undef, undef, undef, undef, undef, undef, undef, undef, undef, undef, undef, undef, undef, undef, undef, undef, undef, undef, undef, undef, undef, undef, undef, undef, undef, undef, undef], defers := [] } w := by
  simp only [c9l, c9b, Try.f9]
  obtain ⟨ad, cp, hv⟩ : ∃ ad cp, v = .slice ad n cp := by
    rcases ownsRow_forms ho with ⟨h1, h2⟩ | ⟨g, cp, h1⟩
    · exact ⟨none, 0, by rw [h1, h2]⟩
    · exact ⟨_, cp, h1⟩
  have HO : Hid (FillI w w base n v (.int .i64 (-1)) 0 xs) := ⟨World.grownBy.refl _ _, ho, rfl⟩
  have HFF : Hid (∀ w', w.grownBy w' v.ownBlock → w'.ownsRow base 3 1 v n (List.replicate n (.int .i64 (-1))) → F w') := hF
  clear ho hF
  subst hv
  go_wp2_with fail
  go_loopw [11] (fun i wr => ∃ (k : Nat) (ys : List Value), i = .int .i64 (k : Int) ∧ k ≤ n ∧ Hid (FillI w wr base n (.slice ad n cp) (.int .i64 (-1)) k ys)) (fun i _ => n - (intOf i).toNat)
  case atStart => exact ⟨0, _, rfl, Nat.zero_le _, HO⟩
  case round =>
    obtain ⟨k, ys, rfl, hk, H⟩ := hrel
    rcases Nat.lt_or_ge k n with hk' | hk'
    · obtain ⟨g, cp', e⟩ := ownsRow_form H.out.own (by omega)
      injection e with e1 _ e3
      subst e1 e3
      have i0 : (0 : Int) ≤ (k : Int) := by omega
      have i1 : (k : Int) < (n : Int) := by omega
      have hw1 : IntKind.i64.wrap ((k : Int) + 1) = (k : Int) + 1 := by rw [IntKind.wrap_i64]; omega
      obtain ⟨xk, hxk⟩ : ∃ xk, ys[k]? = some xk := ⟨_, List.getElem?_eq_getElem (show k < ys.length by have := H.out.own.1; omega)⟩
      have f1 := World.ownsRow.frozenAt H.out.own k
      have f2 : wr.cell? ⟨g, k, none⟩ = some xk := (World.ownsRow.cellAt H.out.own k (by omega)).trans hxk
      have HF := H.out.put hk'
      have HF : Hid (FillI w (wr.setCell ⟨g, k, none⟩ (.int .i64 (-1))) base n (.slice (some ⟨g, 0, none⟩) n cp) (.int .i64 (-1)) (k + 1) (ys.set k (.int .i64 (-1)))) := HF
      clear hxk
      go_wp2_with fail
      go_roundw
      case rel => exact ⟨k + 1, _, by go_num, hk', HF⟩
      case measure => simp [intOf]; omega
    · have e : k = n := by omega
      subst e
      go_wp2_with fail
      exact ⟨_, _, _, _, _, _, _, _, _, _, rfl, HFF.out _ H.out.gr H.out.all⟩

/-- One number behind the other. -/
theorem push2 {wr : World} {base n : Nat} {v : Value} {xs : List Value} (x y : Int) (ho : wr.ownsRow base 3 1 v n xs) (hb : base ≤ wr.heap.size) (hn : n ≤ 1000000) :
    ∃ vk wk, (Builtin.append_ #[46, 46] 46 #[v, .slice (some ⟨wr.heap.size, 0, none⟩) 2 2]).run Try.prog (wr.alloc (.cells #[.int .i64 x, .int .i64 y] 3)) = .ok vk wk ∧ Hid (wr.grownBy wk v.ownBlock ∧ wk.ownsRow base 3 1 vk (n + 2) (xs ++ [.int .i64 x, .int .i64 y])) := by
  obtain ⟨i0, hi0, hz0, hz1, hz2⟩ := info_parts Try.info3
  obtain ⟨vk, wk, k1, k2, k3, k4⟩ := run_append_own (P := Try.prog) (wr.alloc (.cells #[.int .i64 x, .int .i64 y] 3)) base 46 46 3 i0 _ 1 8 Try.underlying46 hi0 hz0 hz1 hz2 rfl (by omega) v n xs (ho.alloc _) ⟨wr.heap.size, 0, none⟩ 2 2 [.int .i64 x, .int .i64 y] rfl
    (World.news_of_block (cs := #[.int .i64 x, .int .i64 y]) (t := 3) (fr := (0, 0)) (heap_alloc_new wr _)) (by simp [Value.oneCell']) (by unfold maxLen; omega) (by omega) (by simp; omega)
  exact ⟨vk, wk, k1, ((New.alloc wr _).but _).trans k3, k2⟩
def QS9 (ao : Option Addr) (cap : Nat) (l : Pts) (wv inV v : Value) (b : Nat) (t11 t20 t21 t22 t23 t24 t25 t26 t27 t28 t29 t30 t31 t32 t33 t34 t35 t36 t37 t38 t39 t40 t41 t42 t43 t44 t45 t46 t47 t48 t49 t50 : Value) (F : Value → World → Prop) (a : Act) (w : World) : Prop :=
  ∃ vg t51 t52 t53, a = { tmps := #[.slice ao l.length cap, undef, .bool false, .int .i64 (errL l), wv, .slice (some ⟨b, 0, none⟩) (l.length + 1) (l.length + 1), inV, v, .int .i64 (errL l), .bool true, .bool true, t11, vg, undef, undef, undef, undef, undef, undef, undef, t20, t21, t22, t23, t24, t25, t26, t27, t28, t29, t30, t31, t32, t33, t34, t35, t36, t37, t38, t39, t40, t41, t42, t43, t44, t45, t46, t47, t48, t49, t50, t51, t52, t53, undef, undef, undef, undef, undef, undef, undef, undef, undef, undef, undef, undef, undef, undef, undef, undef, undef, undef, undef, undef, undef, undef, undef, undef, undef, undef, undef, undef, undef, undef, undef, undef, undef, undef, undef, undef, undef, undef, undef, undef, undef, undef, undef, undef, undef, undef, undef, undef, undef, undef, undef, undef, undef, undef, undef, undef, undef, undef, undef, undef, undef, undef, undef, undef, undef, undef, undef, undef, undef, undef, undef, undef, undef, undef, undef, undef, undef, undef, undef, undef, undef, undef, undef, undef, undef, undef, undef, undef, undef, undef], defers := [] } ∧ F vg w
set_option maxHeartbeats 800000 in
theorem seg9 (ao : Option Addr) (cap : Nat) (l : Pts) (wv inV v : Value) (b base n : Nat) (xs : List Value) (w : World) (ho : w.ownsRow base 3 1 v n xs) (hb : base ≤ w.heap.size) (hn : n ≤ 1000000) (F : Value → World → Prop) (hF : ∀ vg w', w.grownBy w' v.ownBlock → w'.ownsRow base 3 1 vg (n + 2) (xs ++ [.int .i64 (-2), .int .i64 (-3)]) → F vg w') (t11 t20 t21 t22 t23 t24 t25 t26 t27 t28 t29 t30 t31 t32 t33 t34 t35 t36 t37 t38 t39 t40 t41 t42 t43 t44 t45 t46 t47 t48 t49 t50 : Value) :
    c9s.wp Try.prog (fun e a w' => e = .normal ∧ QS9 ao cap l wv inV v b t11 t20 t21 t22 t23 t24 t25 t26 t27 t28 t29 t30 t31 t32 t33 t34 t35 t36 t37 t38 t39 t40 t41 t42 t43 t44 t45 t46 t47 t48 t49 t50 F a w')
      { tmps := #[.slice ao l.length cap, undef, .bool false, .int .i64 (errL l), wv, .slice (some ⟨b, 0, none⟩) (l.length + 1) (l.length + 1), inV, v, .int .i64 (errL l), .bool true, .bool true, t11, undef, undef, undef, undef, undef, undef, undef, undef, t20, t21, t22, t23, t24, t25, t26, t27, t28, t29, t30, t31, t32, t33, t34, t35, t36, t37, t38, t39, t40, t41, t42, t43, t44, t45, t46, t47, t48, t49, t50, undef, undef, undef, undef, undef, undef, undef, undef, undef, undef, undef, undef, undef, undef, undef, undef, undef, undef, undef, undef, undef, undef, undef, undef, undef, undef, undef, undef, undef, undef, undef, undef, undef, undef, undef, undef, undef, undef, undef, undef, undef, undef, undef, undef, undef, undef, undef, undef, undef, undef, undef, undef, undef, undef, undef, undef, undef, undef, undef, undef, undef, undef, undef, undef, undef, undef, undef, undef, undef, undef, undef, undef, undef, undef, undef, undef, undef, undef, undef, undef, undef, undef, undef, undef, undef, undef, undef, undef, undef, undef, undef, undef, undef], defers := [] } w := by
  simp only [c9s, c9c, c9b, Try.f9]
  obtain ⟨vk, wk, k1, R⟩ := push2 (-2) (-3) ho hb hn
  have HFF : Hid (F vk wk) := hF vk wk R.out.1 R.out.2
  clear ho hF R
  go_wp2_with (first | (at_builtin; refine Go.Lib.wpList_append_run _ rfl _ _ 46 46 rfl _ _ rfl rfl vk wk k1 ?_) | go_in)
  exact ⟨_, _, _, _, rfl, HFF.out⟩

end Go.Proofs.Ytgeoffpcmkofkaa
