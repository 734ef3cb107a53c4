/- The mesh of points in their order, and what the flips make of it, over whole numbers. -/
import Derived.Test.YtgeoffpcmkofkaaGreatRe
namespace Go.Proofs.YtgeoffpcmkofkaaGreat

theorem nodup_pairs {s : Pts} (h : s.Nodup) : (pairs s).Nodup := by
  unfold pairs
  have key : ∀ (t u : Pts), t.Nodup → u.Nodup → (t.flatMap fun a => u.map fun v => (a, v)).Nodup := by
    intro t u ht hu
    induction t with
    | nil => simp
    | cons a t ih =>
      rw [List.nodup_cons] at ht
      rw [List.flatMap_cons, List.nodup_append]
      refine ⟨nodup_map hu (fun x _ y _ e => by injection e), ih ht.2, fun x hx y hy e => ?_⟩
      obtain ⟨v, _, rfl⟩ := List.mem_map.1 hx
      obtain ⟨b, hb, hy⟩ := List.mem_flatMap.1 hy
      obtain ⟨v', _, rfl⟩ := List.mem_map.1 hy
      injection e with e _
      exact ht.1 (e ▸ hb)
  exact key s s h h

open Classical in
/-- What a point sees, in an order of its own. -/
noncomputable def seenL (s : Pts) (m : Ms) (p : Pt) : List Ed := (pairs s).filter fun e => decide (SeenBy m p e)
theorem seenL_is {s S : Pts} {m : Ms} {p : Pt} (hs : s.Nodup) (h : Ok S m) (hS : ∀ x ∈ S, x ∈ s) : SeenIs m p (seenL s m p) := by
  refine ⟨(nodup_pairs hs).filter _, fun e => ?_⟩
  unfold seenL
  rw [List.mem_filter]
  constructor
  · exact fun k => by simpa using k.2
  · intro k
    have o := h.outer_mem k.1
    exact ⟨mem_pairs.2 ⟨hS _ o.1, hS _ o.2.1⟩, by simpa using k⟩

/-- The mesh, when k points behind the first n + 1 are joined to it. -/
noncomputable def meshK (s : Pts) (n : Nat) : Nat → Ms
  | 0 => joinN (s.take n) (ptAt s n) (fun _ => none) (n - 1)
  | k + 1 => addAll (meshK s n k) (seenL s (meshK s n k) (ptAt s (n + 1 + k))) (ptAt s (n + 1 + k))

/-- n points lie in a line, the next one beside it. -/
structure Begun (s : Pts) (n : Nat) : Prop where
  rising : Rising s
  two : 2 ≤ n
  lt : n < s.length
  line : ∀ i, i < n → D (ptAt s 0) (ptAt s 1) (ptAt s i) = 0
  beside : D (ptAt s 0) (ptAt s 1) (ptAt s n) ≠ 0

theorem ptAt_take {s : Pts} {n i : Nat} (h : i < n) : ptAt (s.take n) i = ptAt s i := by
  unfold ptAt
  simp [List.getD, List.getElem?_take_of_lt h]
theorem Begun.lined {s : Pts} {n : Nat} (h : Begun s n) : Lined (s.take n) (ptAt s n) := by
  have h2 := h.two
  have hl := h.lt
  have len : (s.take n).length = n := by simp; omega
  have r := h.rising.take n
  have ne : ptAt s 0 ≠ ptAt s 1 := fun e => h.beside (by rw [e, D_same0])
  have onl : ∀ x ∈ s.take n, D (ptAt s 0) (ptAt s 1) x = 0 := by
    intro x hx
    obtain ⟨i, hi⟩ := List.mem_iff_getElem?.1 hx
    have hin : i < n := by have := (List.getElem?_eq_some_iff.1 hi).1; omega
    have := ptAt_get (l := s.take n) (i := i) (by omega)
    rw [hi] at this
    injection this with this
    rw [this, ptAt_take hin]
    exact h.line i hin
  refine ⟨r, by omega, fun x hx y hy z hz => line3 ne (onl x hx) (onl y hy) (onl z hz), ?_⟩
  rw [ptAt_take (by omega), ptAt_take (by omega)]
  exact h.beside

theorem take_succ_ptAt {s : Pts} {i : Nat} (h : i < s.length) : s.take (i + 1) = s.take i ++ [ptAt s i] := by
  rw [List.take_add_one, ptAt_get h]; rfl

theorem Begun.meshK {s : Pts} {n : Nat} (h : Begun s n) : ∀ k, n + 1 + k ≤ s.length → Ok (s.take (n + 1 + k)) (meshK s n k) ∧ Corners (s.take (n + 1 + k)) (meshK s n k)
  | 0, _ => by
    have := h.lined.ok
    have hl := h.lt
    rw [show (s.take n).length - 1 = n - 1 by simp; omega] at this
    rw [Nat.add_zero, take_succ_ptAt hl]
    exact this
  | k + 1, hk => by
    obtain ⟨h1, h2⟩ := h.meshK k (by omega)
    have hl : n + 1 + k < s.length := by omega
    have r := h.rising.take (n + 1 + k)
    have nd := r.nodup
    have hin : ∀ x ∈ s.take (n + 1 + k), x ∈ s := fun x hx => List.mem_of_mem_take hx
    have hK : ∀ x ∈ s.take (n + 1 + k), K x < K (ptAt s (n + 1 + k)) := by
      intro x hx
      obtain ⟨i, hi⟩ := List.mem_iff_getElem?.1 hx
      have hil : i < n + 1 + k := by have := (List.getElem?_eq_some_iff.1 hi).1; simp at this; omega
      rw [List.getElem?_take_of_lt hil] at hi
      exact h.rising i (n + 1 + k) x _ hi (ptAt_get hl) hil
    have hL := seenL_is (p := ptAt s (n + 1 + k)) h.rising.nodup h1 hin
    have e : n + 1 + (k + 1) = n + 1 + k + 1 := by omega
    rw [e, take_succ_ptAt hl]
    have hq : ptAt s (n + k) ∈ s.take (n + 1 + k) := by
      have hx : ptAt (s.take (n + 1 + k)) (n + k) ∈ s.take (n + 1 + k) := ptAt_mem (by simp; omega)
      rwa [ptAt_take (by omega)] at hx
    have hmax : ∀ x ∈ s.take (n + 1 + k), x = ptAt s (n + k) ∨ K x < K (ptAt s (n + k)) := by
      intro x hx
      obtain ⟨i, hi⟩ := List.mem_iff_getElem?.1 hx
      have hil : i < n + 1 + k := by have := (List.getElem?_eq_some_iff.1 hi).1; simp at this; omega
      rw [List.getElem?_take_of_lt hil] at hi
      rcases Nat.lt_or_ge i (n + k) with c | c
      · exact .inr (h.rising i (n + k) x _ hi (ptAt_get (by omega)) c)
      · have : i = n + k := by omega
        subst this
        rw [ptAt_get (by omega)] at hi
        injection hi with hi
        exact .inl hi.symm
    exact ⟨sweep_ok h1 nd hK hL, sweep_corners h1 nd hK hL h2 hq hmax⟩

/-- How many points lie in a line, at the start. -/
structure LineIs (s : Pts) (n : Nat) : Prop where
  ge : min 2 s.length ≤ n
  le : n ≤ s.length
  line : ∀ i, i < n → D (ptAt s 0) (ptAt s 1) (ptAt s i) = 0
  stop : n < s.length → D (ptAt s 0) (ptAt s 1) (ptAt s n) ≠ 0
theorem line_unique {s : Pts} {n n' : Nat} (h : LineIs s n) (h' : LineIs s n') : n = n' := by
  rcases Nat.lt_trichotomy n n' with k | k | k
  · exact absurd (h'.line n k) (h.stop (by have := h'.le; omega))
  · exact k
  · exact absurd (h.line n' k) (h'.stop (by have := h.le; omega))
open Classical in
noncomputable def lineC (s : Pts) : Nat := if h : ∃ n, LineIs s n then h.choose else 0
theorem lineC_eq {s : Pts} {n : Nat} (h : LineIs s n) : lineC s = n := by
  have h' : ∃ n, LineIs s n := ⟨n, h⟩
  unfold lineC
  rw [dif_pos h']
  exact line_unique h'.choose_spec h

/-- The mesh of points in their order. -/
noncomputable def meshOf (s : Pts) : Ms := if lineC s = s.length then fun _ => none else meshK s (lineC s) (s.length - lineC s - 1)
theorem LineIs.begun {s : Pts} {n : Nat} (h : LineIs s n) (hr : Rising s) (hl : n < s.length) : Begun s n := by
  have h2 : 2 ≤ n := by
    have := h.ge
    rcases Nat.lt_or_ge s.length 3 with c | c
    · exfalso
      have e : n = 2 ∨ n = 1 ∨ n = 0 := by omega
      have hs := h.stop hl
      rcases e with rfl | rfl | rfl
      · omega
      · exact hs (D_same2 _ _)
      · exact hs (D_same1 _ _)
    · omega
  exact ⟨hr, h2, hl, h.line, h.stop hl⟩
theorem meshOf_ok {s : Pts} {n : Nat} (h : LineIs s n) (hr : Rising s) : (n = s.length ∧ meshOf s = fun _ => none) ∨ (n < s.length ∧ meshOf s = meshK s n (s.length - n - 1) ∧ Ok s (meshOf s) ∧ Corners s (meshOf s)) := by
  have hle := h.le
  unfold meshOf
  rw [lineC_eq h]
  rcases Nat.lt_or_ge n s.length with c | c
  · right
    rw [if_neg (by omega)]
    have := (h.begun hr c).meshK (s.length - n - 1) (by omega)
    rw [show n + 1 + (s.length - n - 1) = s.length by omega, List.take_length] at this
    exact ⟨c, rfl, this.1, this.2⟩
  · left
    exact ⟨by omega, by rw [if_pos (by omega)]⟩

/-- All sides of a mesh, in their order. -/
def keysL (s : Pts) (m : Ms) : List Ed := (pairs s).filter fun e => (m e).isSome
/-- What the flips come to. -/
noncomputable def settledM (s : Pts) (m : Ms) : Ms := (steps (mu (pairs s) s (m, keysL s m)) (m, keysL s m)).1
theorem inv_start {s : Pts} {m : Ms} (h : Ok s m) : Inv s (m, keysL s m) := by
  refine ⟨h, fun u v hw => ?_⟩
  obtain ⟨l, r, h1, _, _⟩ := wrong_inv hw
  simp only at h1
  have := h.mem _ _ _ h1
  exact .inl (List.mem_filter.2 ⟨mem_pairs.2 ⟨this.1, this.2.1⟩, by rw [h1]; rfl⟩)
theorem settledM_ok {s : Pts} {m : Ms} (hs : s.Nodup) (h : Ok s m) (hc : Corners s m) : Ok s (settledM s m) ∧ Corners s (settledM s m) ∧ ∀ e, wrong (settledM s m) e = false := by
  have hi := inv_start h
  have hst := steps_stop (nodup_pairs hs) (fun u hu v hv => mem_pairs.2 ⟨hu, hv⟩) hi
  exact ⟨(steps_inv hi _).ok, steps_corners hi hc _, inv_end (steps_inv hi _) hst⟩

end Go.Proofs.YtgeoffpcmkofkaaGreat
