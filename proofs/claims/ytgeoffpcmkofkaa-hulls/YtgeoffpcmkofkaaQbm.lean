/- Hl: texts laid into one. -/
import Derived.Test.YtgeoffpcmkofkaaQba
import Derived.Test.YtgeoffpcmkofkaaQbl
/- plumbref's 'Hull' and the ring of corners: the same numbers. -/
namespace Go.Proofs.Ytgeoffpcmkofkaa
open Go Go.RowKit Fl

theorem pN_num {l : Pts} {p : Pt} (h : p ∈ l) : pN l (num l p) = p := by
  unfold pN
  rw [(num_of h).1.here]
  rfl
theorem okJ_iff {l : Pts} (hc : ∀ x ∈ l, CdP x) {x k j : Pt} (hx : x ∈ l) (hk : k ∈ l) (hj : j ∈ l) (hne : K x ≠ K k) : okJ x k j = true ↔ 0 ≤ D x k j ∧ (D x k j = 0 → ¬(K x < K k ∧ K j < K x) ∧ ¬(K k < K x ∧ K x < K j)) := by
  have hon := holds_iff (hc k hk) (hc j hj) (hc x hx)
  have r1 := D_rot x k j
  have hinj : K j = K x ↔ j = x := ⟨fun e => K_inj (hc j hj) (hc x hx) e, fun e => by rw [e]⟩
  simp only [okJ, onB, sameB, Bool.and_eq_true, Bool.or_eq_true, Bool.not_eq_true', Bool.and_eq_false_iff, decide_eq_true_eq, decide_eq_false_iff_not, hon, ← hinj]
  constructor
  · rintro ⟨h1, h2⟩
    refine ⟨h1, fun h0 => ?_⟩
    rw [r1, h0] at h2
    omega
  · rintro ⟨h1, h2⟩
    refine ⟨h1, ?_⟩
    by_cases h0 : D x k j = 0
    · have := h2 h0
      rw [r1, h0]
      omega
    · exact .inl (.inl h0)
theorem goodK_iff {l : Pts} (hc : ∀ x ∈ l, CdP x) {x k : Pt} (hx : x ∈ l) (hk : k ∈ l) : goodK l x k = true ↔ Towards D K (· ∈ l) x k := by
  unfold goodK
  rw [Bool.and_eq_true, List.all_eq_true]
  constructor
  · rintro ⟨h1, h2⟩
    have hne : K x ≠ K k := fun e => by
      rw [K_inj (hc x hx) (hc k hk) e] at h1
      simp [sameB] at h1
    have h3 := fun j hj => (okJ_iff hc hx hk hj hne).1 (h2 j hj)
    exact ⟨fun j hj => (h3 j hj).1, fun h j hj h0 hlt => ((h3 j hj).2 h0).1 ⟨h, hlt⟩, fun h j hj h0 hlt => ((h3 j hj).2 h0).2 ⟨h, hlt⟩, hne⟩
  · intro h
    refine ⟨?_, fun j hj => (okJ_iff hc hx hk hj h.apart).2 ⟨h.left j hj, fun h0 => ⟨fun hh => h.ahead hh.1 j hj h0 hh.2, fun hh => h.backward hh.1 j hj h0 hh.2⟩⟩⟩
    have : k ≠ x := fun e => h.apart (by rw [e])
    simp [sameB, this]

theorem cornersTo_mem (l : Pts) : ∀ (k n : Nat), n ∈ cornersTo l k ↔ n < k ∧ cornerB l n = true
  | 0, n => by simp [cornersTo]
  | k + 1, n => by
    unfold cornersTo
    split
    · rename_i h
      rw [List.mem_append, cornersTo_mem l k n, List.mem_singleton]
      constructor
      · rintro (h1 | rfl)
        · exact ⟨by omega, h1.2⟩
        · exact ⟨by omega, h⟩
      · rintro ⟨h1, h2⟩
        by_cases e : n = k
        · exact .inr e
        · exact .inl ⟨by omega, h2⟩
    · rename_i h
      rw [cornersTo_mem l k n]
      constructor
      · rintro ⟨h1, h2⟩; exact ⟨by omega, h2⟩
      · rintro ⟨h1, h2⟩
        by_cases e : n = k
        · rw [e] at h2; exact absurd h2 h
        · exact ⟨by omega, h2⟩
theorem cornersTo_nodup (l : Pts) : ∀ k, (cornersTo l k).Nodup
  | 0 => by simp [cornersTo]
  | k + 1 => by
    unfold cornersTo
    split
    · refine List.nodup_append.2 ⟨cornersTo_nodup l k, by simp, fun a ha b hb => ?_⟩
      have := cornersTo_lt l k a ha
      have : b = k := by simpa using hb
      omega
    · exact cornersTo_nodup l k
theorem cornerB_iff {l : Pts} (hc : ∀ x ∈ l, CdP x) {R : Pts} (h : RingOK l R) (n : Nat) : cornerB l n = true ↔ ∃ x ∈ R, num l x = n := by
  unfold cornerB
  constructor
  · intro hb
    split at hb
    · rename_i x hx
      rw [Bool.and_eq_true, List.any_eq_true] at hb
      obtain ⟨h1, k, hk, h2⟩ := hb
      have hxl := List.mem_of_getElem? hx
      refine ⟨x, h.all x hxl k hk ((goodK_iff hc hxl hk).1 h2), (num_of hxl).1.one ⟨hx, fun j hj => ?_⟩⟩
      have := of_decide_eq_true h1 j hj
      rw [hx] at this
      exact this
    · simp at hb
  · rintro ⟨x, hx, rfl⟩
    have hxl := h.sub x hx
    have hn := (num_of hxl).1
    rw [hn.here]
    simp only
    rw [Bool.and_eq_true, List.any_eq_true]
    obtain ⟨i, hi, e⟩ := List.mem_iff_getElem.1 hx
    have hp : 0 < R.length := by omega
    have e1 : R[i]? = some x := by rw [List.getElem?_eq_getElem hi, e]
    have hm : (i + 1) % R.length < R.length := Nat.mod_lt _ hp
    have e2 : R[(i + 1) % R.length]? = some R[(i + 1) % R.length] := List.getElem?_eq_getElem hm
    have hk := h.sub _ (List.mem_of_getElem? e2)
    refine ⟨?_, _, hk, (goodK_iff hc hxl hk).2 (h.tow i _ _ e1 e2)⟩
    unfold firstB
    rw [hn.here]
    exact decide_eq_true fun k hk => hn.first k hk
theorem corners_mem {l : Pts} (hc : ∀ x ∈ l, CdP x) {R : Pts} (h : RingOK l R) (n : Nat) : n ∈ cornersTo l l.length ↔ ∃ x ∈ R, num l x = n := by
  rw [cornersTo_mem, cornerB_iff hc h]
  constructor
  · exact fun h => h.2
  · rintro ⟨x, hx, rfl⟩
    exact ⟨num_lt (h.sub x hx), x, hx, rfl⟩
theorem corners_len {l : Pts} (hc : ∀ x ∈ l, CdP x) {R : Pts} (h : RingOK l R) : (cornersTo l l.length).length = R.length := by
  have hm : (R.map (num l)).Nodup := by
    rw [List.Nodup, List.pairwise_map]
    refine (List.Pairwise.and_mem.1 h.list_nodup).imp fun {a b} hh e => ?_
    exact hh.2.2 (num_inj (h.sub a hh.1) (h.sub b hh.2.1) e)
  have a1 := len_le hm (b := cornersTo l l.length) fun n hn => by
    obtain ⟨x, hx, e⟩ := List.mem_map.1 hn
    exact (corners_mem hc h n).2 ⟨x, hx, e⟩
  have a2 := len_le (cornersTo_nodup l l.length) (b := R.map (num l)) fun n hn => by
    obtain ⟨x, hx, e⟩ := (corners_mem hc h n).1 hn
    exact List.mem_map.2 ⟨x, hx, e⟩
  simp at a1 a2
  omega
theorem next_ring {l : Pts} (hc : ∀ x ∈ l, CdP x) {R : Pts} (h : RingOK l R) {cs : List Nat} (hcs : ∀ n, n ∈ cs ↔ ∃ x ∈ R, num l x = n) {i : Nat} {x k : Pt} (e1 : R[i]? = some x) (e2 : R[(i + 1) % R.length]? = some k) : nextN l cs (num l x) = num l k := by
  have hp : 0 < R.length := by have := h.len; omega
  have hi := (List.getElem?_eq_some_iff.1 e1).1
  have hxR := List.mem_of_getElem? e1
  have hkR := List.mem_of_getElem? e2
  have hx := h.sub x hxR
  have hk := h.sub k hkR
  have ht := h.tow i x k e1 e2
  have hkc : num l k ∈ cs := (hcs _).2 ⟨k, hkR, rfl⟩
  have hb : nextB l cs (num l x) (num l k) = true := by
    unfold nextB
    rw [Bool.and_eq_true, List.all_eq_true]
    refine ⟨decide_eq_true fun e => ht.apart (by rw [num_inj hk hx e]), fun n hn => ?_⟩
    obtain ⟨y, hy, rfl⟩ := (hcs n).1 hn
    unfold leftJ
    rw [pN_num hx, pN_num hk, pN_num (h.sub y hy)]
    exact decide_eq_true (ht.left y (h.sub y hy))
  unfold nextN
  cases hf : cs.find? (nextB l cs (num l x)) with
  | none =>
    have := List.find?_eq_none.1 hf _ hkc
    exact absurd hb this
  | some z =>
    have hz := List.find?_some hf
    have hzc := List.mem_of_find?_eq_some hf
    obtain ⟨k', hk'R, rfl⟩ := (hcs z).1 hzc
    have hk' := h.sub k' hk'R
    unfold nextB at hz
    rw [Bool.and_eq_true, List.all_eq_true] at hz
    have hne : k' ≠ x := fun e => (of_decide_eq_true hz.1) (by rw [e])
    have hd := hz.2 _ hkc
    unfold leftJ at hd
    rw [pN_num hx, pN_num hk, pN_num hk'] at hd
    obtain ⟨m, hm, em⟩ := List.mem_iff_getElem.1 hk'R
    have t1 := h.tow m k' _ (by rw [List.getElem?_eq_getElem hm, em]) (List.getElem?_eq_getElem (Nat.mod_lt (m + 1) hp))
    have t2 := h.tow _ k _ e2 (List.getElem?_eq_getElem (Nat.mod_lt ((i + 1) % R.length + 1) hp))
    have := next_one plDK affDK hx hk hk' ht t2 t1 (of_decide_eq_true hd) (fun e => hne (K_inj (hc _ hk') (hc _ hx) e))
    show num l k' = num l k
    rw [K_inj (hc _ hk') (hc _ hk) this]
theorem goRound_ring {l : Pts} (hc : ∀ x ∈ l, CdP x) {R : Pts} (h : RingOK l R) {cs : List Nat} (hcs : ∀ n, n ∈ cs ↔ ∃ x ∈ R, num l x = n) : ∀ (m i : Nat) (x : Pt), R[i]? = some x → i + m ≤ R.length → goRound l cs (num l x) m = ((R.drop i).take m).map (num l)
  | 0, i, x, _, _ => by simp [goRound]
  | m + 1, i, x, e, hm => by
    have hi := (List.getElem?_eq_some_iff.1 e).1
    have ed : R.drop i = x :: R.drop (i + 1) := by rw [List.drop_eq_getElem_cons hi, (List.getElem?_eq_some_iff.1 e).2]
    unfold goRound
    rw [ed, List.take_succ_cons, List.map_cons]
    congr 1
    by_cases h1 : i + 1 < R.length
    · have e2 : R[(i + 1) % R.length]? = some R[i + 1] := by rw [Nat.mod_eq_of_lt h1]; exact List.getElem?_eq_getElem h1
      rw [next_ring hc h hcs e e2]
      exact goRound_ring hc h hcs m (i + 1) _ (List.getElem?_eq_getElem h1) (by omega)
    · have : m = 0 := by omega
      subst this
      simp [goRound]
theorem lessP_iff {p q : Pt} (hp : CdP p) (hq : CdP q) : lessP p q = true ↔ K p < K q := by
  have := K_le hq hp
  simp only [lessP, Bool.or_eq_true, Bool.and_eq_true, decide_eq_true_eq]
  constructor
  · intro h
    apply Int.not_le.1
    rw [this]
    omega
  · intro h
    have h2 : ¬K q ≤ K p := by omega
    rw [this] at h2
    omega
theorem least_ok {l : Pts} (hc : ∀ x ∈ l, CdP x) {cs : List Nat} (hcs : ∀ n ∈ cs, n < l.length) {a : Nat} (ha : a ∈ cs) : ∀ k, leastTo l cs a k ∈ cs ∧ ∀ j, j < k → ∀ c, cs[j]? = some c → K (pN l (leastTo l cs a k)) ≤ K (pN l c)
  | 0 => ⟨ha, fun j hj => by omega⟩
  | k + 1 => by
    obtain ⟨h1, h2⟩ := least_ok hc hcs ha k
    have cd : ∀ n ∈ cs, CdP (pN l n) := fun n hn => by
      unfold pN
      rw [List.getElem?_eq_getElem (hcs n hn)]
      exact hc _ (List.getElem_mem _)
    unfold leastTo
    split
    · rename_i c hk
      have hcm := List.mem_of_getElem? hk
      have hl := lessP_iff (cd c hcm) (cd _ h1)
      split
      · rename_i hlt
        rw [hl] at hlt
        refine ⟨hcm, fun j hj c' hc' => ?_⟩
        by_cases e : j = k
        · subst e
          rw [hk] at hc'
          injection hc' with hc'
          subst hc'
          exact Int.le_refl _
        · have := h2 j (by omega) c' hc'
          omega
      · rename_i hlt
        rw [hl] at hlt
        refine ⟨h1, fun j hj c' hc' => ?_⟩
        by_cases e : j = k
        · subst e
          rw [hk] at hc'
          injection hc' with hc'
          subst hc'
          omega
        · exact h2 j (by omega) c' hc'
    · rename_i hk
      refine ⟨h1, fun j hj c' hc' => ?_⟩
      by_cases e : j = k
      · subst e
        rw [hk] at hc'
        simp at hc'
      · exact h2 j (by omega) c' hc'
theorem refHull_ring {l : Pts} (hc : ∀ x ∈ l, CdP x) {R : Pts} (h : RingOK l R) : refHull l = R.map (num l) := by
  have hcs := corners_mem hc h
  have hlen := corners_len hc h
  have hlt := cornersTo_lt l l.length
  have h2 := h.len
  unfold refHull
  generalize cornersTo l l.length = cs at *
  cases cs with
  | nil => simp at hlen; omega
  | cons c cs =>
    simp only
    obtain ⟨f, hf⟩ : ∃ f, R[0]? = some f := ⟨_, List.getElem?_eq_getElem (by omega)⟩
    have hfR := List.mem_of_getElem? hf
    have hfl := h.sub f hfR
    obtain ⟨q1, q2⟩ := least_ok hc hlt (a := c) (by simp) (c :: cs).length
    have hle : leastTo l (c :: cs) c (c :: cs).length = num l f := by
      generalize leastTo l (c :: cs) c (c :: cs).length = z at *
      obtain ⟨y, hy, rfl⟩ := (hcs z).1 q1
      have hyl := h.sub y hy
      obtain ⟨j, hj, ej⟩ := List.mem_iff_getElem.1 ((hcs (num l f)).2 ⟨f, hfR, rfl⟩)
      have a1 := q2 j hj (num l f) (by rw [List.getElem?_eq_getElem hj, ej])
      rw [pN_num hyl, pN_num hfl] at a1
      have a2 := h.first f hf y hyl
      rw [K_inj (hc y hyl) (hc f hfl) (by omega)]
    rw [hle, hlen, goRound_ring hc h hcs R.length 0 f hf (by omega), List.drop_zero, List.take_length]
/-- All points are one. -/
theorem refHull_one {l : Pts} (hc : ∀ x ∈ l, CdP x) (hl : l ≠ []) (hall : ∀ x ∈ l, ∀ y ∈ l, x = y) : ∃ z, ringL (hullS l) = [z] ∧ z ∈ l ∧ num l z = 0 ∧ refHull l = [0] := by
  have hcs : ∀ k, cornersTo l k = [] := fun k => by
    apply List.eq_nil_iff_forall_not_mem.2
    intro n hn
    have hb := ((cornersTo_mem l k n).1 hn).2
    unfold cornerB at hb
    split at hb
    · rename_i x hx
      rw [Bool.and_eq_true, List.any_eq_true] at hb
      obtain ⟨_, y, hy, h2⟩ := hb
      unfold goodK at h2
      rw [hall y hy x (List.mem_of_getElem? hx)] at h2
      simp [sameB] at h2
    · simp at hb
  have hs := hull_is hc
  have hne := hull_ne hc hl
  cases e : hullS l with
  | nil => exact absurd e hne
  | cons z t =>
    have hin : ∀ x ∈ hullS l, x ∈ l := fun x hx => corner_sub hc ((hs.mem x).1 hx)
    have hz : z ∈ l := hin z (by rw [e]; simp)
    have ht : t = [] := by
      cases t with
      | nil => rfl
      | cons y t =>
        have := hs.rising 0 1 z y (by rw [e]; rfl) (by rw [e]; rfl) (by omega)
        have e2 := hall z hz y (hin y (by rw [e]; simp))
        rw [e2] at this
        omega
    subst ht
    refine ⟨z, by simp [ringL], hz, ?_, ?_⟩
    · refine (num_of hz).1.one ⟨?_, fun j hj => by omega⟩
      cases l with
      | nil => exact absurd rfl hl
      | cons a l => rw [hall z hz a (by simp)]; rfl
    · unfold refHull
      rw [hcs, if_neg hl]
/-- plumbref's answer is the program's. -/
theorem refHull_same {l : Pts} (hc : ∀ x ∈ l, CdP x) : hullN l = (refHull l).map fun (n : Nat) => Value.int .i64 (n : Int) := by
  by_cases hl : l = []
  · subst hl
    simp [hullN, refHull, cornersTo]
  · unfold hullN
    rw [if_neg hl]
    by_cases hall : ∀ x ∈ l, ∀ y ∈ l, x = y
    · obtain ⟨z, h1, h2, h3, h4⟩ := refHull_one hc hl hall
      rw [h1, h4]
      have := (num_of h2).2
      simp [numsOf, this, h3]
    · obtain ⟨a, b, ha, hb, hab⟩ : ∃ a b, a ∈ l ∧ b ∈ l ∧ K a < K b := by
        apply Classical.byContradiction
        intro hn
        apply hall
        intro x hx y hy
        refine K_inj (hc x hx) (hc y hy) ?_
        rcases Int.lt_trichotomy (K x) (K y) with h | h | h
        · exact absurd ⟨x, y, hx, hy, h⟩ hn
        · exact h
        · exact absurd ⟨y, x, hy, hx, h⟩ hn
      have h := ring_ok hc ha hb hab
      rw [refHull_ring hc h]
      simp only [numsOf, List.map_map]
      exact List.map_congr_left fun x hx => by rw [(num_of (h.sub x hx)).2]; rfl
end Go.Proofs.Ytgeoffpcmkofkaa
