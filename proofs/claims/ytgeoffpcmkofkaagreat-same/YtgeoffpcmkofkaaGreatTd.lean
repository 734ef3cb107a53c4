/- The first triangles: points in a line, and one beside it. -/
import Derived.Test.YtgeoffpcmkofkaaGreatTc
namespace Go.Proofs.YtgeoffpcmkofkaaGreat

/-! ### The first triangles: points in a line, and one beside it -/
/-- In their order, each ahead of the next. -/
def Rising (l : List Pt) : Prop := ∀ (i j : Nat) (x y : Pt), l[i]? = some x → l[j]? = some y → i < j → K x < K y
def Nx (l : List Pt) (x y : Pt) : Prop := ∃ i : Nat, l[i]? = some x ∧ l[i + 1]? = some y

section
variable {l : List Pt}
theorem Rising.idx (h : Rising l) {i j : Nat} {x y : Pt} (hi : l[i]? = some x) (hj : l[j]? = some y) : (K x < K y ↔ i < j) ∧ (K x = K y ↔ i = j) := by
  rcases Nat.lt_trichotomy i j with k | k | k
  · have := h i j x y hi hj k; omega
  · subst k
    rw [hi] at hj; injection hj with hj; subst hj; omega
  · have := h j i y x hj hi k; omega
theorem Rising.inj (h : Rising l) {x y : Pt} (hx : x ∈ l) (hy : y ∈ l) (hk : K x = K y) : x = y := by
  obtain ⟨i, hi⟩ := List.mem_iff_getElem?.1 hx
  obtain ⟨j, hj⟩ := List.mem_iff_getElem?.1 hy
  have := (h.idx hi hj).2.1 hk
  subst this
  rw [hi] at hj; injection hj
theorem Rising.nodup (h : Rising l) : l.Nodup := by
  rw [List.nodup_iff_pairwise_ne, List.pairwise_iff_getElem]
  intro i j hi hj hij e
  have := h i j l[i] l[j] (List.getElem?_eq_getElem hi) (List.getElem?_eq_getElem hj) hij
  rw [e] at this; omega
theorem Rising.take (h : Rising l) (n : Nat) : Rising (l.take n) := by
  intro i j x y hi hj hij
  rw [List.getElem?_take] at hi hj
  split at hi
  · split at hj
    · exact h i j x y hi hj hij
    · cases hj
  · cases hi
theorem nx_mem {x y : Pt} (h : Nx l x y) : x ∈ l ∧ y ∈ l := by
  obtain ⟨i, h1, h2⟩ := h
  exact ⟨List.mem_of_getElem? h1, List.mem_of_getElem? h2⟩
theorem Rising.nx_lt (h : Rising l) {x y : Pt} (hn : Nx l x y) : K x < K y := by
  obtain ⟨i, h1, h2⟩ := hn
  exact h i (i + 1) x y h1 h2 (by omega)
theorem Rising.nx_gap (h : Rising l) {x y z : Pt} (hn : Nx l x y) (hz : z ∈ l) : K z ≤ K x ∨ K y ≤ K z := by
  obtain ⟨i, h1, h2⟩ := hn
  obtain ⟨j, hj⟩ := List.mem_iff_getElem?.1 hz
  have a := h.idx hj h1
  have b := h.idx hj h2
  omega
theorem Rising.nx_fun (h : Rising l) {x y y' : Pt} (hn : Nx l x y) (hn' : Nx l x y') : y = y' := by
  obtain ⟨i, h1, h2⟩ := hn
  obtain ⟨j, h3, h4⟩ := hn'
  have := (h.idx h1 h3).2.1 rfl
  subst this
  rw [h2] at h4; injection h4
theorem Rising.nx_inj (h : Rising l) {x x' y : Pt} (hn : Nx l x y) (hn' : Nx l x' y) : x = x' := by
  obtain ⟨i, h1, h2⟩ := hn
  obtain ⟨j, h3, h4⟩ := hn'
  have := (h.idx h2 h4).2.1 rfl
  have : i = j := by omega
  subst this
  rw [h1] at h3; injection h3
theorem Rising.nx_ex (h : Rising l) {x z : Pt} (hx : x ∈ l) (hz : z ∈ l) (hk : K x < K z) : (∃ y, Nx l x y) ∧ ∃ y, Nx l y z := by
  obtain ⟨i, hi⟩ := List.mem_iff_getElem?.1 hx
  obtain ⟨j, hj⟩ := List.mem_iff_getElem?.1 hz
  have := (h.idx hi hj).1.1 hk
  have lj := (List.getElem?_eq_some_iff.1 hj).1
  constructor
  · exact ⟨l[i + 1]'(by omega), i, hi, List.getElem?_eq_getElem (by omega)⟩
  · refine ⟨l[j - 1]'(by omega), j - 1, List.getElem?_eq_getElem (by omega), ?_⟩
    have e : j - 1 + 1 = j := by omega
    rw [e]; exact hj
end

/-- How points stand in a line, seen from one beside it. -/
structure Row (b : List Pt) (p : Pt) (R : Pt → Pt → Prop) : Prop where
  mem : ∀ x y, R x y → x ∈ b ∧ y ∈ b ∧ 0 < D x y p
  gap : ∀ x y, R x y → ∀ z ∈ b, 0 ≤ D z x p ∨ 0 ≤ D y z p
  fn : ∀ x y y', R x y → R x y' → y = y'
  inj : ∀ x x' y, R x y → R x' y → x = x'
  ex : ∀ x ∈ b, ∀ z ∈ b, 0 < D x z p → (∃ y, R x y) ∧ ∃ y, R y z
  one : ∀ x ∈ b, ∀ z ∈ b, D x z p = 0 → x = z
  line : ∀ x ∈ b, ∀ y ∈ b, ∀ z ∈ b, D x y z = 0
  off : p ∉ b

/-- The fan of triangles over a row. -/
def Fan (R : Pt → Pt → Prop) (p : Pt) (m : Ms) : Prop := ∀ u v w, m (u, v) = some w ↔ (R u v ∧ w = p) ∨ (v = p ∧ R w u) ∨ (u = p ∧ R v w)

theorem fan_ok {b : List Pt} {p : Pt} {R : Pt → Pt → Prop} {m : Ms} (hR : Row b p R) (hm : Fan R p m) : Ok (b ++ [p]) m := by
  have inS : ∀ {x}, x ∈ b → x ∈ b ++ [p] := fun k => List.mem_append_left _ k
  have inP : p ∈ b ++ [p] := List.mem_append_right _ (by simp)
  have cases' : ∀ {x}, x ∈ b ++ [p] → x ∈ b ∨ x = p := fun k => by simpa using k
  have t1 : ∀ x y z : Pt, D y p z = D z y p := fun x y z => D_turn z y p
  have t2 : ∀ x z : Pt, D p x z = D x z p := fun x z => D_turn' x z p
  have tri : ∀ {x y z : Pt}, R x y → z ∈ b ++ [p] → 0 ≤ D y p z → 0 ≤ D p x z → z = x ∨ z = y ∨ z = p := by
    intro x y z hxy hz g1 g2
    rcases cases' hz with hz | hz
    · rw [t1 x] at g1
      rw [t2] at g2
      have a := hR.mem _ _ hxy
      rcases hR.gap _ _ hxy z hz with k | k
      · have : D z x p = -D x z p := D_swap' x z p
        exact .inl (hR.one z hz x a.1 (by omega))
      · have : D y z p = -D z y p := D_swap' z y p
        exact .inr (.inl (hR.one z hz y a.2.1 (by omega)))
    · exact .inr (.inr hz)
  have nb : ∀ {u v : Pt}, Nb m u v → (u ∈ b ∨ u = p) ∧ (v ∈ b ∨ v = p) := by
    intro u v hn
    rcases hn with k | k
    · obtain ⟨w, e⟩ := isSome_get k
      rcases (hm _ _ _).1 e with ⟨k, _⟩ | ⟨k, k'⟩ | ⟨k, k'⟩
      · exact ⟨.inl (hR.mem _ _ k).1, .inl (hR.mem _ _ k).2.1⟩
      · exact ⟨.inl (hR.mem _ _ k').2.1, .inr k⟩
      · exact ⟨.inr k, .inl (hR.mem _ _ k').1⟩
    · obtain ⟨w, e⟩ := isSome_get k
      rcases (hm _ _ _).1 e with ⟨k, _⟩ | ⟨k, k'⟩ | ⟨k, k'⟩
      · exact ⟨.inl (hR.mem _ _ k).2.1, .inl (hR.mem _ _ k).1⟩
      · exact ⟨.inr k, .inl (hR.mem _ _ k').2.1⟩
      · exact ⟨.inl (hR.mem _ _ k').1, .inr k⟩
  refine ⟨?_, ?_, ?_, ?_, ?_, ?_⟩
  · intro u v w e
    rcases (hm _ _ _).1 e with ⟨k, rfl⟩ | ⟨rfl, k⟩ | ⟨rfl, k⟩
    · exact ⟨inS (hR.mem _ _ k).1, inS (hR.mem _ _ k).2.1, inP⟩
    · exact ⟨inS (hR.mem _ _ k).2.1, inP, inS (hR.mem _ _ k).1⟩
    · exact ⟨inP, inS (hR.mem _ _ k).1, inS (hR.mem _ _ k).2.1⟩
  · intro u v w e
    rcases (hm _ _ _).1 e with ⟨k, rfl⟩ | ⟨rfl, k⟩ | ⟨rfl, k⟩
    · exact (hR.mem _ _ k).2.2
    · rw [t1 u]; exact (hR.mem _ _ k).2.2
    · rw [t2]; exact (hR.mem _ _ k).2.2
  · intro u v w e
    rcases (hm _ _ _).1 e with ⟨k, rfl⟩ | ⟨rfl, k⟩ | ⟨rfl, k⟩
    · exact (hm _ _ _).2 (.inr (.inl ⟨rfl, k⟩))
    · exact (hm _ _ _).2 (.inr (.inr ⟨rfl, k⟩))
    · exact (hm _ _ _).2 (.inl ⟨k, rfl⟩)
  · intro u v w e x hx g1 g2 g3
    rcases (hm _ _ _).1 e with ⟨k, rfl⟩ | ⟨rfl, k⟩ | ⟨rfl, k⟩
    · exact tri k hx g2 g3
    · rcases tri k hx g1 g2 with c | c | c
      · exact .inr (.inr c)
      · exact .inl c
      · exact .inr (.inl c)
    · rcases tri k hx g3 g1 with c | c | c
      · exact .inr (.inl c)
      · exact .inr (.inr c)
      · exact .inl c
  · intro u v w e hn x hx
    rcases (hm _ _ _).1 e with ⟨k, rfl⟩ | ⟨rfl, k⟩ | ⟨rfl, k⟩
    · have a := hR.mem _ _ k
      rcases cases' hx with hx | rfl
      · rw [hR.line _ a.1 _ a.2.1 _ hx]; omega
      · omega
    · have a := hR.mem _ _ k
      rcases cases' hx with hx | rfl
      · rw [t1 u]
        rcases lt_or_ge' (D x u v) 0 with c | c
        · exfalso
          obtain ⟨⟨y, hy⟩, _⟩ := hR.ex u a.2.1 x hx (by rw [D_swap']; omega)
          have := (hm v u y).2 (.inr (.inr ⟨rfl, hy⟩))
          rw [hn] at this; cases this
        · exact c
      · rw [D_same2]; omega
    · have a := hR.mem _ _ k
      rcases cases' hx with hx | rfl
      · rw [t2]
        rcases lt_or_ge' (D v x u) 0 with c | c
        · exfalso
          obtain ⟨_, y, hy⟩ := hR.ex x hx v a.1 (by rw [D_swap']; omega)
          have := (hm v u y).2 (.inr (.inl ⟨rfl, hy⟩))
          rw [hn] at this; cases this
        · exact c
      · rw [D_same1]; omega
  · intro u v w e v' hn
    have hv := nb hn
    rcases (hm _ _ _).1 e with ⟨k, rfl⟩ | ⟨rfl, k⟩ | ⟨rfl, k⟩
    · have a := hR.mem _ _ k
      rintro ⟨q1, q2⟩
      rcases hv.2 with c | c
      · rw [hR.line _ a.1 _ a.2.1 _ c] at q1; omega
      · rw [c, D_same2] at q2; omega
    · have a := hR.mem _ _ k
      rintro ⟨q1, q2⟩
      rcases hv.2 with c | c
      · rw [hR.line _ a.2.1 _ c _ a.1] at q2; omega
      · rw [c, D_same2] at q1; omega
    · have a := hR.mem _ _ k
      rintro ⟨q1, q2⟩
      rcases hv.2 with c | c
      · rw [t2] at q1 q2
        rcases hR.gap _ _ k v' c with d | d
        · rw [D_swap'] at d; omega
        · rw [D_swap'] at d; omega
      · rw [c, D_same1] at q1; omega

theorem fan_corners {b : List Pt} {p : Pt} {R : Pt → Pt → Prop} {m : Ms} (hR : Row b p R) (hm : Fan R p m) {x0 x1 : Pt} (h0 : x0 ∈ b) (h1 : x1 ∈ b) (hne : x0 ≠ x1) : Corners (b ++ [p]) m := by
  have hb : ∀ x ∈ b, ∃ y, (m (x, y)).isSome = true := by
    intro x hx
    have : ∃ z ∈ b, D x z p ≠ 0 := by
      rcases Classical.em (x = x0) with c | c
      · exact ⟨x1, h1, fun k => hne (c ▸ hR.one x hx x1 h1 k)⟩
      · exact ⟨x0, h0, fun k => c (hR.one x hx x0 h0 k)⟩
    obtain ⟨z, hz, hd⟩ := this
    rcases Int.lt_or_gt_of_ne hd with k | k
    · obtain ⟨_, y, hy⟩ := hR.ex z hz x hx (by rw [D_swap']; omega)
      exact ⟨p, by rw [(hm x p y).2 (.inr (.inl ⟨rfl, hy⟩))]; rfl⟩
    · obtain ⟨⟨y, hy⟩, _⟩ := hR.ex x hx z hz k
      exact ⟨y, by rw [(hm x y p).2 (.inl ⟨hy, rfl⟩)]; rfl⟩
  intro x hx
  rcases List.mem_append.1 hx with hx | hx
  · exact hb x hx
  · have : x = p := by simpa using hx
    subst this
    obtain ⟨y, hy⟩ := hb x0 h0
    obtain ⟨w, e⟩ := isSome_get hy
    rcases (hm _ _ _).1 e with ⟨k, _⟩ | ⟨_, k⟩ | ⟨k, _⟩
    · exact ⟨x0, by rw [(hm x x0 y).2 (.inr (.inr ⟨rfl, k⟩))]; rfl⟩
    · exact ⟨w, by rw [(hm x w x0).2 (.inr (.inr ⟨rfl, k⟩))]; rfl⟩
    · exact absurd (k ▸ h0) hR.off

end Go.Proofs.YtgeoffpcmkofkaaGreat
