/- What Triangulate answers, over whole numbers. -/
import Derived.Test.YtgeoffpcmkofkaaGreatRl
namespace Go.Proofs.YtgeoffpcmkofkaaGreat
open Go.RowKit Go.Maps Fl
set_option maxRecDepth 100000

theorem line_exists (s : Pts) : ∃ n, LineIs s n := by
  have hex : ∃ n, min 2 s.length ≤ n ∧ (n < s.length → D (ptAt s 0) (ptAt s 1) (ptAt s n) ≠ 0) := ⟨s.length, Nat.min_le_right _ _, fun h => by omega⟩
  obtain ⟨n, ⟨h1, h2⟩, hmin⟩ := exists_least hex
  have hle : n ≤ s.length := hmin s.length ⟨Nat.min_le_right _ _, fun h => by omega⟩
  refine ⟨n, h1, hle, fun i hi => ?_, h2⟩
  rcases Nat.lt_or_ge i 2 with k | k
  · have : i = 0 ∨ i = 1 := by omega
    rcases this with rfl | rfl
    · exact D_same1 _ _
    · exact D_same2 _ _
  · rcases Classical.em (D (ptAt s 0) (ptAt s 1) (ptAt s i) = 0) with e | e
    · exact e
    · have := hmin i ⟨by omega, fun _ => e⟩
      omega

theorem ok_none (s : Pts) : Ok s (fun _ => none) := by constructor <;> (intro u v w h; cases h)
theorem meshOf_is (s : Pts) (hr : Rising s) : Ok s (meshOf s) := by
  obtain ⟨n, h⟩ := line_exists s
  rcases meshOf_ok h hr with k | k
  · rw [k.2]; exact ok_none s
  · exact k.2.2.1
theorem settled_is (s : Pts) (hr : Rising s) : Ok s (settledM s (meshOf s)) := by
  have hi := inv_start (meshOf_is s hr)
  exact (steps_inv hi _).ok

/-- The numbers of points: of the first that is the same. -/
theorem numN_spec (l : Pts) : ∀ k, k ≤ l.length → ∀ x, (numN l k x = none ∧ ∀ i, i < k → l[i]? ≠ some x) ∨ ∃ i : Nat, i < k ∧ numN l k x = some (i : Int) ∧ l[i]? = some x ∧ ∀ j, j < i → l[j]? ≠ some x
  | 0, _, x => .inl ⟨rfl, fun i h => by omega⟩
  | k + 1, hk, x => by
    have ih := numN_spec l k (by omega)
    have hp : l[k]? = some l[k] := List.getElem?_eq_getElem (by omega)
    simp only [numN, hp]
    rcases ih l[k] with ⟨h1, h2⟩ | ⟨i, h1, h2, h3, h4⟩
    · rw [if_neg (by rw [h1]; simp)]
      by_cases hx : x = l[k]
      · subst hx
        right
        exact ⟨k, by omega, by simp [setN], hp, h2⟩
      · rcases ih x with ⟨g1, g2⟩ | ⟨i, g1, g2, g3, g4⟩
        · left
          refine ⟨by simp [setN, hx, g1], fun i hi => ?_⟩
          rcases Nat.lt_or_ge i k with c | c
          · exact g2 i c
          · have : i = k := by omega
            subst this
            rw [hp]
            exact fun e => hx (by injection e with e; exact e.symm)
        · right
          exact ⟨i, by omega, by simp [setN, hx, g2], g3, g4⟩
    · rw [if_pos (by rw [h2]; rfl)]
      rcases ih x with ⟨g1, g2⟩ | ⟨i', g1, g2, g3, g4⟩
      · left
        refine ⟨g1, fun j hj => ?_⟩
        rcases Nat.lt_or_ge j k with c | c
        · exact g2 j c
        · have : j = k := by omega
          subst this
          rw [hp]
          intro e
          injection e with e
          exact g2 i h1 (by rw [h3, e])
      · right
        exact ⟨i', by omega, g2, g3, g4⟩

/-- The number of a point. -/
def nr (l : Pts) (x : Pt) : Int := atN (numN l l.length) x
theorem nr_spec {l : Pts} {x : Pt} (hx : x ∈ l) : ∃ i : Nat, i < l.length ∧ nr l x = (i : Int) ∧ l[i]? = some x ∧ ∀ j, j < i → l[j]? ≠ some x := by
  obtain ⟨j, hj⟩ := List.mem_iff_getElem?.1 hx
  rcases numN_spec l l.length (Nat.le_refl _) x with ⟨_, h2⟩ | ⟨i, h1, h2, h3, h4⟩
  · exact absurd hj (h2 j (List.getElem?_eq_some_iff.1 hj).1)
  · exact ⟨i, h1, by simp [nr, atN, h2], h3, h4⟩
theorem nr_inj {l : Pts} {x y : Pt} (hx : x ∈ l) (hy : y ∈ l) (h : nr l x = nr l y) : x = y := by
  obtain ⟨i, _, e1, h1, _⟩ := nr_spec hx
  obtain ⟨j, _, e2, h2, _⟩ := nr_spec hy
  have : i = j := by omega
  subst this
  rw [h1] at h2
  injection h2

theorem tri_unique : ∀ {L L' : List Tri3}, L.Nodup → L'.Nodup → (∀ e, e ∈ L ↔ e ∈ L') → L.Pairwise (fun x y => ltOf cmpT y x = false) → L'.Pairwise (fun x y => ltOf cmpT y x = false) → L = L'
  | [], L', _, _, hm, _, _ => by
    cases L' with
    | nil => rfl
    | cons a l => exact absurd ((hm a).2 (by simp)) (by simp)
  | a :: l, [], _, _, hm, _, _ => absurd ((hm a).1 (by simp)) (by simp)
  | a :: l, b :: l', h1, h2, hm, p1, p2 => by
    rw [List.nodup_cons] at h1 h2
    rw [List.pairwise_cons] at p1 p2
    have e : a = b := by
      rcases List.mem_cons.1 ((hm a).1 (by simp)) with e | m1
      · exact e
      · rcases List.mem_cons.1 ((hm b).2 (by simp)) with e | m2
        · exact e.symm
        · have q1 := (ltOf_not _ _ _).1 (p2.1 a m1)
          have q2 := (ltOf_not _ _ _).1 (p1.1 b m2)
          rw [cmpT_neg] at q1 q2
          obtain ⟨a1, a2, a3⟩ := a
          obtain ⟨b1, b2, b3⟩ := b
          simp only [Prod.mk.injEq] at q1 q2 ⊢
          omega
    subst e
    congr 1
    refine tri_unique h1.2 h2.2 (fun x => ?_) p1.2 p2.2
    have hx := hm x
    simp only [List.mem_cons] at hx
    constructor
    · intro hl
      rcases hx.1 (.inr hl) with e | k
      · exact absurd (e ▸ hl) h1.1
      · exact k
    · intro hl
      rcases hx.2 (.inr hl) with e | k
      · exact absurd (e ▸ hl) h2.1
      · exact k
theorem IsTri.unique {m : Ms} {num : Ns} {L L' : List Tri3} (h : IsTri m num L) (h' : IsTri m num L') : L = L' :=
  tri_unique h.nd h'.nd (fun t => by rw [h.iff, h'.iff]) h.pw h'.pw

/-- What is answered where nothing is refused. -/
structure Answer (l : Pts) (L : List Tri3) : Prop where
  is : ∃ s, IsDis l s ∧ IsTri (settledM s (meshOf s)) (numN l l.length) L
theorem Answer.unique {l : Pts} {L L' : List Tri3} (h : Answer l L) (h' : Answer l L') : L = L' := by
  obtain ⟨s, h1, h2⟩ := h.is
  obtain ⟨s', h1', h2'⟩ := h'.is
  have : s = s' := dis_unique h1.rising h1'.rising (fun x => by rw [h1.mem, h1'.mem])
  subst this
  exact h2.unique h2'
theorem Answer.len {l : Pts} {L : List Tri3} (h : Answer l L) (h40 : l.length ≤ 40) : L.length ≤ 64000 := by
  obtain ⟨s, h1, h2⟩ := h.is
  have hs : s.length ≤ 40 := Nat.le_trans h1.len h40
  have hok := settled_is s h1.rising
  have : L.length ≤ ((pairs s).flatMap fun e => s.map fun c => triAt (numN l l.length) e c).length := by
    refine length_le_of_sub h2.nd fun t ht => ?_
    obtain ⟨e, c, hm, ht, _⟩ := (h2.iff t).1 ht
    have := hok.mem e.1 e.2 c hm
    exact List.mem_flatMap.2 ⟨e, mem_pairs.2 ⟨this.1, this.2.1⟩, List.mem_map.2 ⟨c, this.2.2, ht.symm⟩⟩
  have key : ∀ t : List Ed, (t.flatMap fun e => s.map fun c => triAt (numN l l.length) e c).length = t.length * s.length := by
    intro t
    induction t with
    | nil => simp
    | cons a t ih => rw [List.flatMap_cons, List.length_append, ih, List.length_map, List.length_cons, Nat.add_mul]; omega
  rw [key, pairs_length] at this
  have h3 : s.length * s.length * s.length ≤ 40 * 40 * 40 := Nat.mul_le_mul (Nat.mul_le_mul hs hs) hs
  omega
open Classical in
/-- What Triangulate answers. -/
noncomputable def triOf (l : Pts) : List Tri3 := if h : errL l = 0 ∧ ∃ L, Answer l L then h.2.choose else []
theorem triOf_eq {l : Pts} {L : List Tri3} (h0 : errL l = 0) (h : Answer l L) : triOf l = L := by
  have h' : errL l = 0 ∧ ∃ L, Answer l L := ⟨h0, L, h⟩
  unfold triOf
  rw [dif_pos h']
  exact h'.2.choose_spec.unique h
theorem triOf_bad {l : Pts} (h0 : errL l ≠ 0) : triOf l = [] := by
  unfold triOf
  rw [dif_neg (fun h => h0 h.1)]
theorem triOf_len (l : Pts) : (triOf l).length ≤ 1000000 := by
  rcases Classical.em (errL l = 0 ∧ ∃ L, Answer l L) with h | h
  · obtain ⟨L, hL⟩ := h.2
    rw [triOf_eq h.1 hL]
    have := hL.len (errL_ok h.1).1
    omega
  · unfold triOf
    rw [dif_neg h]
    simp

end Go.Proofs.YtgeoffpcmkofkaaGreat
