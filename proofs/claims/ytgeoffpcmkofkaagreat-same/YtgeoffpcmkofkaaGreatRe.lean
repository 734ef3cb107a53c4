/- What the sweep makes of points in their order, over whole numbers. -/
import Derived.Test.YtgeoffpcmkofkaaGreatRc
namespace Go.Proofs.YtgeoffpcmkofkaaGreat

section
variable {line : Pts} {p : Pt}
/-- Points in a line, one beside it. -/
structure Lined (line : Pts) (p : Pt) : Prop where
  rising : Rising line
  two : 2 ≤ line.length
  flat : ∀ x ∈ line, ∀ y ∈ line, ∀ z ∈ line, D x y z = 0
  beside : D (ptAt line 0) (ptAt line 1) p ≠ 0

theorem ptAt_mem {l : Pts} {i : Nat} (h : i < l.length) : ptAt l i ∈ l := by rw [ptAt_eq h]; exact List.getElem_mem h
theorem ptAt_get {l : Pts} {i : Nat} (h : i < l.length) : l[i]? = some (ptAt l i) := by rw [ptAt_eq h]; exact List.getElem?_eq_getElem h

theorem Lined.sides (h : Lined line p) {x z : Pt} (hx : x ∈ line) (hz : z ∈ line) : (K (ptAt line 1) - K (ptAt line 0)) * D x z p = D (ptAt line 0) (ptAt line 1) p * (K z - K x) ∧ 0 < K (ptAt line 1) - K (ptAt line 0) := by
  have h2 := h.two
  have m0 := ptAt_mem (l := line) (i := 0) (by omega)
  have m1 := ptAt_mem (l := line) (i := 1) (by omega)
  have k := h.rising 0 1 _ _ (ptAt_get (by omega)) (ptAt_get (by omega)) (by omega)
  have e1 := K_along (z := p) (h.flat _ m0 _ m1 _ hz)
  have e2 := K_along (z := p) (h.flat _ m0 _ m1 _ hx)
  have s := D_sum (ptAt line 0) x z p
  rw [h.flat _ m0 _ hx _ hz] at s
  have sw : D z (ptAt line 0) p = -D (ptAt line 0) z p := D_swap' _ _ _
  refine ⟨?_, by omega⟩
  have e3 : D x z p = D (ptAt line 0) z p - D (ptAt line 0) x p := by omega
  rw [e3]
  grind

/-- The line's steps, so that the point lies to their left. -/
def Turn (line : Pts) (p : Pt) (x y : Pt) : Prop := (0 < D (ptAt line 0) (ptAt line 1) p ∧ Nx line x y) ∨ (D (ptAt line 0) (ptAt line 1) p < 0 ∧ Nx line y x)

theorem Lined.pos (h : Lined line p) {x z : Pt} (hx : x ∈ line) (hz : z ∈ line) (hd : 0 < D (ptAt line 0) (ptAt line 1) p) : (0 < D x z p ↔ K x < K z) ∧ (0 ≤ D x z p ↔ K x ≤ K z) ∧ (D x z p = 0 ↔ K x = K z) := by
  obtain ⟨e, k⟩ := h.sides hx hz
  rcases Int.lt_trichotomy (K x) (K z) with c | c | c
  · have := Int.mul_pos hd (show 0 < K z - K x by omega)
    have := pos_of_mul k (x := D x z p) (by omega)
    omega
  · have e0 : D (ptAt line 0) (ptAt line 1) p * (K z - K x) = 0 := by rw [c]; simp
    rw [e0] at e
    have := mul_eq_zero' e (by omega)
    omega
  · have := Int.mul_pos hd (show 0 < K x - K z by omega)
    have e2 : D (ptAt line 0) (ptAt line 1) p * (K x - K z) = -(D (ptAt line 0) (ptAt line 1) p * (K z - K x)) := by grind
    have := neg_of_mul k (x := D x z p) (by omega)
    omega
theorem Lined.neg (h : Lined line p) {x z : Pt} (hx : x ∈ line) (hz : z ∈ line) (hd : D (ptAt line 0) (ptAt line 1) p < 0) : (0 < D x z p ↔ K z < K x) ∧ (0 ≤ D x z p ↔ K z ≤ K x) ∧ (D x z p = 0 ↔ K x = K z) := by
  obtain ⟨e, k⟩ := h.sides hx hz
  rcases Int.lt_trichotomy (K x) (K z) with c | c | c
  · have := Int.mul_pos (show 0 < -D (ptAt line 0) (ptAt line 1) p by omega) (show 0 < K z - K x by omega)
    have e2 : -D (ptAt line 0) (ptAt line 1) p * (K z - K x) = -(D (ptAt line 0) (ptAt line 1) p * (K z - K x)) := by grind
    have := neg_of_mul k (x := D x z p) (by omega)
    omega
  · have e0 : D (ptAt line 0) (ptAt line 1) p * (K z - K x) = 0 := by rw [c]; simp
    rw [e0] at e
    have := mul_eq_zero' e (by omega)
    omega
  · have := Int.mul_pos (show 0 < -D (ptAt line 0) (ptAt line 1) p by omega) (show 0 < K x - K z by omega)
    have e2 : -D (ptAt line 0) (ptAt line 1) p * (K x - K z) = D (ptAt line 0) (ptAt line 1) p * (K z - K x) := by grind
    have := pos_of_mul k (x := D x z p) (by omega)
    omega

theorem Lined.row (h : Lined line p) : Row line p (Turn line p) := by
  have h2 := h.two
  have hoff : p ∉ line := fun hp => h.beside (h.flat _ (ptAt_mem (by omega)) _ (ptAt_mem (by omega)) _ hp)
  rcases Int.lt_or_gt_of_ne h.beside with hd | hd
  · have iff : ∀ x y, Turn line p x y ↔ Nx line y x := fun x y => ⟨fun k => by rcases k with ⟨k, _⟩ | ⟨_, k⟩; omega; exact k, fun k => .inr ⟨hd, k⟩⟩
    refine ⟨?_, ?_, ?_, ?_, ?_, ?_, h.flat, hoff⟩
    · intro x y k
      rw [iff] at k
      have m := nx_mem k
      exact ⟨m.2, m.1, (h.neg m.2 m.1 hd).1.2 (h.rising.nx_lt k)⟩
    · intro x y k z hz
      rw [iff] at k
      have m := nx_mem k
      rcases h.rising.nx_gap k hz with c | c
      · exact .inr ((h.neg m.1 hz hd).2.1.2 c)
      · exact .inl ((h.neg hz m.2 hd).2.1.2 c)
    · intro x y y' k k'
      rw [iff] at k k'
      exact h.rising.nx_inj k k'
    · intro x x' y k k'
      rw [iff] at k k'
      exact h.rising.nx_fun k k'
    · intro x hx z hz k
      have := (h.neg hx hz hd).1.1 k
      obtain ⟨⟨y, hy⟩, y', hy'⟩ := h.rising.nx_ex hz hx this
      exact ⟨⟨y', (iff _ _).2 hy'⟩, y, (iff _ _).2 hy⟩
    · intro x hx z hz k
      exact h.rising.inj hx hz ((h.neg hx hz hd).2.2.1 k)
  · have iff : ∀ x y, Turn line p x y ↔ Nx line x y := fun x y => ⟨fun k => by rcases k with ⟨_, k⟩ | ⟨k, _⟩; exact k; omega, fun k => .inl ⟨hd, k⟩⟩
    refine ⟨?_, ?_, ?_, ?_, ?_, ?_, h.flat, hoff⟩
    · intro x y k
      rw [iff] at k
      have m := nx_mem k
      exact ⟨m.1, m.2, (h.pos m.1 m.2 hd).1.2 (h.rising.nx_lt k)⟩
    · intro x y k z hz
      rw [iff] at k
      have m := nx_mem k
      rcases h.rising.nx_gap k hz with c | c
      · exact .inl ((h.pos hz m.1 hd).2.1.2 c)
      · exact .inr ((h.pos m.2 hz hd).2.1.2 c)
    · intro x y y' k k'
      rw [iff] at k k'
      exact h.rising.nx_fun k k'
    · intro x x' y k k'
      rw [iff] at k k'
      exact h.rising.nx_inj k k'
    · intro x hx z hz k
      have := (h.pos hx hz hd).1.1 k
      obtain ⟨⟨y, hy⟩, y', hy'⟩ := h.rising.nx_ex hx hz this
      exact ⟨⟨y, (iff _ _).2 hy⟩, y', (iff _ _).2 hy'⟩
    · intro x hx z hz k
      exact h.rising.inj hx hz ((h.pos hx hz hd).2.2.1 k)

/-- The first k steps. -/
def TurnK (line : Pts) (p : Pt) (k : Nat) (x y : Pt) : Prop := ∃ i, i < k ∧ i + 1 < line.length ∧ ((0 < D (ptAt line 0) (ptAt line 1) p ∧ x = ptAt line i ∧ y = ptAt line (i + 1)) ∨ (D (ptAt line 0) (ptAt line 1) p < 0 ∧ y = ptAt line i ∧ x = ptAt line (i + 1)))
theorem Lined.turnK (_h : Lined line p) {x y : Pt} : TurnK line p (line.length - 1) x y ↔ Turn line p x y := by
  unfold TurnK Turn Nx
  constructor
  · rintro ⟨i, h1, h2, ⟨h3, rfl, rfl⟩ | ⟨h3, rfl, rfl⟩⟩
    · exact .inl ⟨h3, i, ptAt_get (by omega), ptAt_get h2⟩
    · exact .inr ⟨h3, i, ptAt_get (by omega), ptAt_get h2⟩
  · rintro (⟨h3, i, h4, h5⟩ | ⟨h3, i, h4, h5⟩)
    · have l1 := (List.getElem?_eq_some_iff.1 h5).1
      rw [ptAt_get (by omega)] at h4 h5
      injection h4 with h4; injection h5 with h5
      exact ⟨i, by omega, l1, .inl ⟨h3, h4.symm, h5.symm⟩⟩
    · have l1 := (List.getElem?_eq_some_iff.1 h5).1
      rw [ptAt_get (by omega)] at h4 h5
      injection h4 with h4; injection h5 with h5
      exact ⟨i, by omega, l1, .inr ⟨h3, h4.symm, h5.symm⟩⟩
theorem Lined.ptAt_inj (h : Lined line p) {i j : Nat} (hi : i < line.length) (hj : j < line.length) (e : ptAt line i = ptAt line j) : i = j :=
  (h.rising.idx (ptAt_get hi) (ptAt_get hj)).2.1 (by rw [e])

theorem Lined.fanK (h : Lined line p) : ∀ k, k + 1 ≤ line.length → Fan (TurnK line p k) p (joinN line p (fun _ => none) k)
  | 0, _ => by
    intro u v w
    constructor
    · intro k; cases k
    · rintro (⟨⟨i, k, _⟩, _⟩ | ⟨_, i, k, _⟩ | ⟨_, i, k, _⟩) <;> omega
  | k + 1, hk => by
    have ih := h.fanK k (by omega)
    have hoff := h.row.off
    have mk : ptAt line k ∈ line := ptAt_mem (by omega)
    have mk1 : ptAt line (k + 1) ∈ line := ptAt_mem (by omega)
    have n1 : ptAt line k ≠ p := fun e => hoff (e ▸ mk)
    have n2 : ptAt line (k + 1) ≠ p := fun e => hoff (e ▸ mk1)
    have n3 : ptAt line k ≠ ptAt line (k + 1) := fun e => by have := h.ptAt_inj (by omega) (by omega) e; omega
    have hlt := h.rising k (k + 1) _ _ (ptAt_get (by omega)) (ptAt_get (by omega)) (by omega)
    -- the new triangle's corners x, y
    obtain ⟨x, y, e, hxp, hyp, hxy, hT, hold1, hold2⟩ : ∃ x y, joinN line p (fun _ => none) (k + 1) = addM (joinN line p (fun _ => none) k) x y p ∧ x ≠ p ∧ y ≠ p ∧ x ≠ y ∧ (∀ a c, TurnK line p (k + 1) a c ↔ TurnK line p k a c ∨ (a = x ∧ c = y)) ∧ (∀ c, ¬TurnK line p k x c) ∧ (∀ c, ¬TurnK line p k c y) := by
      rcases Int.lt_or_gt_of_ne h.beside with hd | hd
      · refine ⟨ptAt line (k + 1), ptAt line k, ?_, n2, n1, fun e => n3 e.symm, fun a c => ?_, fun c => ?_, fun c => ?_⟩
        · show joinF p _ _ _ = _
          rw [joinF, if_pos]
          have := (h.neg mk1 mk hd).1.2 hlt
          rw [D_swap'] at this; omega
        · constructor
          · rintro ⟨i, h1, h2, h3⟩
            rcases Nat.lt_or_ge i k with c1 | c1
            · exact .inl ⟨i, c1, h2, h3⟩
            · have e : i = k := by omega
              subst e
              rcases h3 with ⟨h3, _⟩ | ⟨_, h4, h5⟩
              · omega
              · exact .inr ⟨h5, h4⟩
          · rintro (⟨i, h1, h2, h3⟩ | ⟨h1, h2⟩)
            · exact ⟨i, by omega, h2, h3⟩
            · exact ⟨k, by omega, by omega, .inr ⟨hd, h2, h1⟩⟩
        · rintro ⟨i, h1, h2, ⟨h3, _⟩ | ⟨_, h4, h5⟩⟩
          · omega
          · have := h.ptAt_inj (by omega) h2 h5; omega
        · rintro ⟨i, h1, h2, ⟨h3, _⟩ | ⟨_, h4, h5⟩⟩
          · omega
          · have := h.ptAt_inj (by omega) (by omega) h4; omega
      · refine ⟨ptAt line k, ptAt line (k + 1), ?_, n1, n2, n3, fun a c => ?_, fun c => ?_, fun c => ?_⟩
        · show joinF p _ _ _ = _
          rw [joinF, if_neg]
          have := (h.pos mk mk1 hd).1.2 hlt
          omega
        · constructor
          · rintro ⟨i, h1, h2, h3⟩
            rcases Nat.lt_or_ge i k with c1 | c1
            · exact .inl ⟨i, c1, h2, h3⟩
            · have e : i = k := by omega
              subst e
              rcases h3 with ⟨_, h4, h5⟩ | ⟨h3, _⟩
              · exact .inr ⟨h4, h5⟩
              · omega
          · rintro (⟨i, h1, h2, h3⟩ | ⟨h1, h2⟩)
            · exact ⟨i, by omega, h2, h3⟩
            · exact ⟨k, by omega, by omega, .inl ⟨hd, h1, h2⟩⟩
        · rintro ⟨i, h1, h2, ⟨_, h4, h5⟩ | ⟨h3, _⟩⟩
          · have := h.ptAt_inj (by omega) (by omega) h4; omega
          · omega
        · rintro ⟨i, h1, h2, ⟨_, h4, h5⟩ | ⟨h3, _⟩⟩
          · have := h.ptAt_inj (by omega) h2 h5; omega
          · omega
    intro u v w
    have hmem : ∀ {a c : Pt}, TurnK line p k a c → a ∈ line ∧ c ∈ line := by
      rintro a c ⟨i, _, h2, ⟨_, rfl, rfl⟩ | ⟨_, rfl, rfl⟩⟩
      · exact ⟨ptAt_mem (by omega), ptAt_mem h2⟩
      · exact ⟨ptAt_mem h2, ptAt_mem (by omega)⟩
    rw [e, addM_eq]
    simp only [hT, Prod.mk.injEq]
    by_cases c1 : u = p ∧ v = x
    · rw [if_pos c1]
      obtain ⟨rfl, rfl⟩ := c1
      constructor
      · intro k; injection k with k; exact .inr (.inr ⟨rfl, .inr ⟨rfl, k.symm⟩⟩)
      · rintro (⟨k | k, _⟩ | ⟨k, _⟩ | ⟨_, k | k⟩)
        · exact absurd (hmem k).1 hoff
        · exact absurd k.1.symm hxp
        · exact absurd k hxp
        · exact absurd k (hold1 _)
        · rw [k.2]
    · rw [if_neg c1]
      by_cases c2 : u = y ∧ v = p
      · rw [if_pos c2]
        obtain ⟨rfl, rfl⟩ := c2
        constructor
        · intro k; injection k with k; exact .inr (.inl ⟨rfl, .inr ⟨k.symm, rfl⟩⟩)
        · rintro (⟨k | k, _⟩ | ⟨_, k | k⟩ | ⟨k, _⟩)
          · exact absurd (hmem k).2 hoff
          · exact absurd k.2.symm hyp
          · exact absurd k (hold2 _)
          · rw [k.1]
          · exact absurd k hyp
      · rw [if_neg c2]
        by_cases c3 : u = x ∧ v = y
        · rw [if_pos c3]
          obtain ⟨rfl, rfl⟩ := c3
          constructor
          · intro k; injection k with k; exact .inl ⟨.inr ⟨rfl, rfl⟩, k.symm⟩
          · rintro (⟨_, k⟩ | ⟨k, _⟩ | ⟨k, _⟩)
            · rw [k]
            · exact absurd k hyp
            · exact absurd k hxp
        · rw [if_neg c3, ih]
          constructor
          · rintro (⟨k, k'⟩ | ⟨k, k'⟩ | ⟨k, k'⟩)
            · exact .inl ⟨.inl k, k'⟩
            · exact .inr (.inl ⟨k, .inl k'⟩)
            · exact .inr (.inr ⟨k, .inl k'⟩)
          · rintro (⟨k | k, k'⟩ | ⟨k, k' | k'⟩ | ⟨k, k' | k'⟩)
            · exact .inl ⟨k, k'⟩
            · exact absurd k c3
            · exact .inr (.inl ⟨k, k'⟩)
            · exact absurd ⟨k'.2, k⟩ c2
            · exact .inr (.inr ⟨k, k'⟩)
            · exact absurd ⟨k, k'.1⟩ c1

theorem Lined.fan (h : Lined line p) : Fan (Turn line p) p (joinN line p (fun _ => none) (line.length - 1)) := by
  have := h.fanK (line.length - 1) (by have := h.two; omega)
  intro u v w
  rw [this u v w]
  simp only [h.turnK]
theorem Lined.ok (h : Lined line p) : Ok (line ++ [p]) (joinN line p (fun _ => none) (line.length - 1)) ∧ Corners (line ++ [p]) (joinN line p (fun _ => none) (line.length - 1)) := by
  have h2 := h.two
  refine ⟨fan_ok h.row h.fan, fan_corners h.row h.fan (ptAt_mem (i := 0) (by omega)) (ptAt_mem (i := 1) (by omega)) fun e => ?_⟩
  have := h.ptAt_inj (by omega) (by omega) e
  omega
end

end Go.Proofs.YtgeoffpcmkofkaaGreat
