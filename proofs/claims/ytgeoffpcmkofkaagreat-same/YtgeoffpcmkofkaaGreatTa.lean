/- Meshes of triangles over whole numbers: what must hold of one, and that a flip of a wrong side keeps it. -/
import Derived.Test.YtgeoffpcmkofkaaGreatDel
namespace Go.Proofs.YtgeoffpcmkofkaaGreat

/-! ### Signs -/
theorem pos_of_mul {d x : Int} (hd : 0 < d) (h : 0 < d * x) : 0 < x := by
  rcases lt_or_ge' 0 x with h1 | h1
  · exact h1
  · have := Int.mul_nonpos_of_nonneg_of_nonpos (Int.le_of_lt hd) h1; omega
theorem nonneg_of_mul {d x : Int} (hd : 0 < d) (h : 0 ≤ d * x) : 0 ≤ x := Int.nonneg_of_mul_nonneg_right h hd
theorem neg_of_mul {d x : Int} (hd : 0 < d) (h : d * x < 0) : x < 0 := by
  rcases lt_or_ge' x 0 with h1 | h1
  · exact h1
  · have := Int.mul_nonneg (Int.le_of_lt hd) h1; omega
theorem mul_np {x y : Int} (hx : 0 ≤ x) (hy : y ≤ 0) : x * y ≤ 0 := Int.mul_nonpos_of_nonneg_of_nonpos hx hy
theorem mul_nn {x y : Int} (hx : 0 ≤ x) (hy : 0 ≤ y) : 0 ≤ x * y := Int.mul_nonneg hx hy
/-! ### Sides -/
theorem D_turn (a b c : Pt) : D b c a = D a b c := by unfold D det; grind
theorem D_turn' (a b c : Pt) : D c a b = D a b c := by unfold D det; grind
theorem D_flip (a b c : Pt) : D a c b = -D a b c := by unfold D det; grind
theorem D_same1 (a b : Pt) : D a b a = 0 := by unfold D det; grind
theorem D_same2 (a b : Pt) : D a b b = 0 := by unfold D det; grind
theorem D_same0 (a b : Pt) : D a a b = 0 := by unfold D det; grind
/-- Round one point. -/
theorem D_four (o a b c d : Pt) : D o a c * D o b d = D o a b * D o c d + D o a d * D o b c := by unfold D det; grind
/-- Any point's side of a line out of three others. -/
theorem D_split (a b c x y z : Pt) : D a b c * D x y z = D b c z * D x y a + D c a z * D x y b + D a b z * D x y c := by unfold D det; grind
theorem D_sum (a b c x : Pt) : D a b x + D b c x + D c a x = D a b c := by unfold D det; grind
def sq (a b : Pt) : Int := (b.1 - a.1) * (b.1 - a.1) + (b.2 - a.2) * (b.2 - a.2)
theorem sq_nn (a b : Pt) : 0 ≤ sq a b := by
  have h1 := sq_nonneg (b.1 - a.1)
  have h2 := sq_nonneg (b.2 - a.2)
  unfold sq; omega
theorem sq_pos {a b : Pt} (h : a ≠ b) : 0 < sq a b := by
  rcases lt_or_ge' 0 (sq a b) with h1 | h1
  · exact h1
  · have h2 := sq_nonneg (b.1 - a.1)
    have h3 := sq_nonneg (b.2 - a.2)
    unfold sq at h1
    have e1 : (b.1 - a.1) * (b.1 - a.1) = 0 := by omega
    have e2 : (b.2 - a.2) * (b.2 - a.2) = 0 := by omega
    have f1 : b.1 - a.1 = 0 := by rcases Int.mul_eq_zero.1 e1 with h | h <;> exact h
    have f2 : b.2 - a.2 = 0 := by rcases Int.mul_eq_zero.1 e2 with h | h <;> exact h
    exact absurd (pt_ext (by omega) (by omega)) h
/-- A circle from one of its points. -/
theorem C_from (a b l r : Pt) : C a b l r = sq a b * D a r l - sq a l * D a r b - sq a r * D a b l := by
  unfold C cdet sq D det; grind
theorem C_turn' (u v p q : Pt) : C p u v q = C u v p q := by unfold C cdet; grind
theorem C_rev (a b l r : Pt) : C b a r l = C a b l r := by rw [C_swap, C_anti]; omega
theorem ne_of_D {a b c : Pt} (h : D a b c ≠ 0) : a ≠ b := fun e => h (by rw [e, D_same0])
theorem ne_of_D' {a b c : Pt} (h : D a b c ≠ 0) : a ≠ c := fun e => h (by rw [← e, D_same1])
theorem ne_of_D2 {a b c : Pt} (h : D a b c ≠ 0) : b ≠ c := fun e => h (by rw [← e, D_same2])

/-! ### The four corners of a wrong side -/
theorem quad_a {a b l r : Pt} (h1 : 0 < D a b l) (h2 : 0 < D b a r) (hc : 0 < C a b l r) : 0 < D a r l := by
  rw [C_from] at hc
  have e : D a r b = D b a r := by rw [← D_turn a r b, ← D_turn]
  rw [e] at hc
  have g1 := mul_nn (sq_nn a l) (Int.le_of_lt h2)
  have g2 := mul_nn (sq_nn a r) (Int.le_of_lt h1)
  have hb : 0 < sq a b := sq_pos (ne_of_D (c := l) (by omega))
  exact pos_of_mul hb (by omega)
theorem quad_b {a b l r : Pt} (h1 : 0 < D a b l) (h2 : 0 < D b a r) (hc : 0 < C a b l r) : 0 < D b l r :=
  quad_a h2 h1 (by rw [C_rev]; exact hc)

/-- What lies beyond both sides at a corner does not lie within the circle. -/
theorem corner {a r l x : Pt} (ht : 0 < D a r l) (h1 : D l a x ≤ 0) (h2 : D a r x ≤ 0) : C a r l x ≤ 0 := by
  rw [C_from]
  have e1 : D a x l = D l a x := by rw [← D_turn l a x]
  have e2 : D a x r = -D a r x := D_flip a r x
  rw [e1, e2]
  have g1 := mul_np (sq_nn a r) h1
  have g2 := mul_nn (sq_nn a l) (show 0 ≤ -D a r x by omega)
  have g3 := mul_nn (sq_nn a x) (Int.le_of_lt ht)
  omega

/-- A circle through two points that holds a third holds what that one's circle holds on its side. -/
theorem chord {u v x y p : Pt} (hx : 0 < D u v x) (hy : 0 < D u v y) (hxy : 0 < C u v x y) (hp : 0 ≤ D u v p) (hyp : 0 < C u v y p) : 0 < C u v x p := by
  rw [C_cross] at *
  apply pos_of_mul hy
  have e : D u v y * (dot u v x * D u v p - dot u v p * D u v x) = D u v p * (dot u v x * D u v y - dot u v y * D u v x) + D u v x * (dot u v y * D u v p - dot u v p * D u v y) := by grind
  rw [e]
  have a1 := mul_nn hp (Int.le_of_lt hxy)
  have a2 := Int.mul_pos hx hyp
  omega

theorem flip_la {a b l r x : Pt} (h1 : 0 < D a b l) (h2 : 0 < D b a r) (hc : 0 < C a b l r) (hx : 0 < C a r l x) (hs : 0 ≤ D l a x) : 0 < C a b l x := by
  have h3 := quad_a h1 h2 hc
  have := chord (u := l) (v := a) (x := b) (y := r) (p := x) (by rw [D_turn']; exact h1) (by rw [D_turn']; exact h3) (by rw [C_turn']; exact hc) hs (by rw [C_turn']; exact hx)
  rwa [C_turn'] at this
theorem flip_ar {a b l r x : Pt} (h1 : 0 < D a b l) (h2 : 0 < D b a r) (hc : 0 < C a b l r) (hx : 0 < C a r l x) (hs : 0 ≤ D a r x) : 0 < C b a r x := by
  have h3 := quad_a h1 h2 hc
  have := chord (u := a) (v := r) (x := b) (y := l) (p := x) (by rw [D_turn]; exact h2) h3 (by rw [C_turn, C_rev]; exact hc) hs hx
  rwa [C_turn] at this

/-- THE CIRCLES OF A FLIP, POINT BY POINT. -/
theorem flip_pt {a b l r : Pt} (h1 : 0 < D a b l) (h2 : 0 < D b a r) (hc : 0 < C a b l r) (x : Pt) :
    ((0 < C a r l x ∨ 0 < C b l r x) → (0 < C a b l x ∨ 0 < C b a r x)) ∧ ((0 < C a r l x ∧ 0 < C b l r x) → (0 < C a b l x ∧ 0 < C b a r x)) := by
  have h3 := quad_a h1 h2 hc
  have h4 := quad_b h1 h2 hc
  have hc' : 0 < C b a r l := by rw [C_rev]; exact hc
  have A1 : 0 < C a r l x → 0 ≤ D l a x → 0 < C a b l x := flip_la h1 h2 hc
  have A2 : 0 < C a r l x → 0 ≤ D a r x → 0 < C b a r x := flip_ar h1 h2 hc
  have B1 : 0 < C b l r x → 0 ≤ D r b x → 0 < C b a r x := flip_la h2 h1 hc'
  have B2 : 0 < C b l r x → 0 ≤ D b l x → 0 < C a b l x := flip_ar h2 h1 hc'
  have X1 : 0 < C a r l x → ¬(D l a x ≤ 0 ∧ D a r x ≤ 0) := fun h ⟨g1, g2⟩ => by have := corner h3 g1 g2; omega
  have X2 : 0 < C b l r x → ¬(D r b x ≤ 0 ∧ D b l x ≤ 0) := fun h ⟨g1, g2⟩ => by have := corner h4 g1 g2; omega
  have Y1 : 0 < C a r l x → ¬(D r l x ≤ 0 ∧ D l a x ≤ 0) := fun h ⟨g1, g2⟩ => by
    have := corner (a := l) (r := a) (l := r) (x := x) (by rw [D_turn']; exact h3) g1 g2
    rw [C_turn'] at this; omega
  have Y2 : 0 < C a r l x → ¬(D a r x ≤ 0 ∧ D r l x ≤ 0) := fun h ⟨g1, g2⟩ => by
    have := corner (a := r) (r := l) (l := a) (x := x) (by rw [D_turn]; exact h3) g1 g2
    rw [C_turn] at this; omega
  have Y3 : 0 < C b l r x → ¬(D l r x ≤ 0 ∧ D r b x ≤ 0) := fun h ⟨g1, g2⟩ => by
    have := corner (a := r) (r := b) (l := l) (x := x) (by rw [D_turn']; exact h4) g1 g2
    rw [C_turn'] at this; omega
  have Y4 : 0 < C b l r x → ¬(D b l x ≤ 0 ∧ D l r x ≤ 0) := fun h ⟨g1, g2⟩ => by
    have := corner (a := l) (r := r) (l := b) (x := x) (by rw [D_turn]; exact h4) g1 g2
    rw [C_turn] at this; omega
  have e : D l r x = -D r l x := D_swap' r l x
  constructor
  · rintro (h | h)
    · rcases lt_or_ge' (D l a x) 0 with g | g
      · exact .inr (A2 h (by have := X1 h; omega))
      · exact .inl (A1 h g)
    · rcases lt_or_ge' (D r b x) 0 with g | g
      · exact .inl (B2 h (by have := X2 h; omega))
      · exact .inr (B1 h g)
  · rintro ⟨h, k⟩
    have x1 := X1 h; have x2 := X2 k; have y1 := Y1 h; have y2 := Y2 h; have y3 := Y3 k; have y4 := Y4 k
    constructor
    · rcases lt_or_ge' (D l a x) 0 with g | g
      · exact B2 k (by omega)
      · exact A1 h g
    · rcases lt_or_ge' (D a r x) 0 with g | g
      · exact B1 k (by omega)
      · exact A2 h g

/-! ### Meshes: of each directed side the corner across -/
abbrev Ed := Pt × Pt
abbrev Ms := Ed → Option Pt
def setM (m : Ms) (e : Ed) (c : Pt) : Ms := fun f => if f = e then some c else m f
def delM (m : Ms) (e : Ed) : Ms := fun f => if f = e then none else m f
def addM (m : Ms) (a b c : Pt) : Ms := setM (setM (setM m (a, b) c) (b, c) a) (c, a) b
def flipM (m : Ms) (a b l r : Pt) : Ms := addM (addM (delM (delM m (a, b)) (b, a)) a r l) b l r

/-- There is a side between two points, one way or the other. -/
def Nb (m : Ms) (u v : Pt) : Prop := (m (u, v)).isSome = true ∨ (m (v, u)).isSome = true

structure Ok (S : List Pt) (m : Ms) : Prop where
  mem : ∀ u v w, m (u, v) = some w → u ∈ S ∧ v ∈ S ∧ w ∈ S
  pos : ∀ u v w, m (u, v) = some w → 0 < D u v w
  rot : ∀ u v w, m (u, v) = some w → m (v, w) = some u
  empty : ∀ u v w, m (u, v) = some w → ∀ x ∈ S, 0 ≤ D u v x → 0 ≤ D v w x → 0 ≤ D w u x → x = u ∨ x = v ∨ x = w
  hull : ∀ u v w, m (u, v) = some w → m (v, u) = none → ∀ x ∈ S, 0 ≤ D u v x
  fan : ∀ u v w, m (u, v) = some w → ∀ v', Nb m u v' → ¬(0 < D u v v' ∧ 0 < D u v' w)

theorem Ok.rot' {S : List Pt} {m : Ms} (h : Ok S m) {u v w : Pt} (hm : m (u, v) = some w) : m (w, u) = some v := h.rot _ _ _ (h.rot _ _ _ hm)

/-- On one ray from a point two neighbours are one. -/
theorem Ok.ray {S : List Pt} {m : Ms} (h : Ok S m) {u v w v' : Pt} (hm : m (u, v) = some w) (hn : v' ∈ S) (hne : v' ≠ u) (h0 : D u v v' = 0) (hd : 0 < D u v' w) (hle : 0 ≤ D v w v') : v' = v := by
  have h1 : 0 ≤ D w u v' := by have := D_turn w u v'; omega
  rcases h.empty u v w hm v' hn (by omega) hle h1 with e | e | e
  · exact absurd e hne
  · exact e
  · subst e
    have := h.pos u v v' hm
    omega

section
variable {S : List Pt} {m : Ms} {a b l r : Pt}
/-- No side joins the two corners across a wrong side yet. -/
theorem Ok.no_lr (h : Ok S m) (hl : m (a, b) = some l) (hr : m (b, a) = some r) (hc : 0 < C a b l r) : m (l, r) = none ∧ m (r, l) = none := by
  have h1 := h.pos _ _ _ hl
  have h2 := h.pos _ _ _ hr
  have h3 := quad_a h1 h2 hc
  have h4 := quad_b h1 h2 hc
  have hla := h.rot' hl
  have hf := h.fan l a b hla r
  have g1 : 0 < D l a r := by rw [D_turn']; exact h3
  have g2 : 0 < D l r b := by rw [D_turn]; exact h4
  constructor
  · cases e : m (l, r) with
    | none => rfl
    | some z => exact absurd ⟨g1, g2⟩ (hf (.inl (by rw [e]; rfl)))
  · cases e : m (r, l) with
    | none => rfl
    | some z => exact absurd ⟨g1, g2⟩ (hf (.inr (by rw [e]; rfl)))

structure Apart (a b l r : Pt) : Prop where
  ab : a ≠ b
  al : a ≠ l
  bl : b ≠ l
  br : b ≠ r
  ar : a ≠ r
  lr : l ≠ r
theorem apart_of (h1 : 0 < D a b l) (h2 : 0 < D b a r) (hc : 0 < C a b l r) : Apart a b l r := by
  have h3 := quad_a h1 h2 hc
  exact ⟨ne_of_D (c := l) (by omega), ne_of_D' (b := b) (by omega), ne_of_D2 (a := a) (by omega), ne_of_D' (b := a) (by omega), ne_of_D2 (a := b) (by omega), fun e => ne_of_D2 (a := a) (b := r) (c := l) (by omega) e.symm⟩

/-- The flipped mesh, side by side. -/
theorem flipM_eq (ha : Apart a b l r) (f : Ed) : flipM m a b l r f =
    if f = (a, r) then some l else if f = (r, l) then some a else if f = (l, a) then some r else if f = (b, l) then some r else if f = (l, r) then some b else if f = (r, b) then some l
    else if f = (a, b) then none else if f = (b, a) then none else m f := by
  obtain ⟨x, y⟩ := f
  obtain ⟨h1, h2, h3, h4, h5, h6⟩ := ha
  simp only [flipM, addM, setM, delM, Prod.mk.injEq]
  grind

theorem flip_inv (ha : Apart a b l r) {u v w : Pt} (h : flipM m a b l r (u, v) = some w) :
    (u = a ∧ v = r ∧ w = l) ∨ (u = r ∧ v = l ∧ w = a) ∨ (u = l ∧ v = a ∧ w = r) ∨ (u = b ∧ v = l ∧ w = r) ∨ (u = l ∧ v = r ∧ w = b) ∨ (u = r ∧ v = b ∧ w = l) ∨
    (m (u, v) = some w ∧ (u, v) ≠ (a, r) ∧ (u, v) ≠ (r, l) ∧ (u, v) ≠ (l, a) ∧ (u, v) ≠ (b, l) ∧ (u, v) ≠ (l, r) ∧ (u, v) ≠ (r, b) ∧ (u, v) ≠ (a, b) ∧ (u, v) ≠ (b, a)) := by
  rw [flipM_eq ha] at h
  grind

/-- Which sides there are behind a flip. -/
theorem flip_some (ha : Apart a b l r) (h : Ok S m) (hl : m (a, b) = some l) (hr : m (b, a) = some r) (f : Ed) :
    (flipM m a b l r f).isSome = true ↔ (f = (l, r) ∨ f = (r, l)) ∨ ((m f).isSome = true ∧ f ≠ (a, b) ∧ f ≠ (b, a)) := by
  have e1 := h.rot _ _ _ hl; have e2 := h.rot' hl; have e3 := h.rot _ _ _ hr; have e4 := h.rot' hr
  obtain ⟨x, y⟩ := f
  rw [flipM_eq ha]
  obtain ⟨h1, h2, h3, h4, h5, h6⟩ := ha
  grind

/-- Two angles at one point that have a direction in common, none of whose ends goes within the other, begin together. -/
theorem angle {o v w p q r : Pt} (a1 : 0 < D o v r) (a2 : 0 < D o r w) (b1 : 0 < D o p r) (b2 : 0 < D o r q) (hvw : 0 < D o v w) (hpq : 0 < D o p q)
    (n1 : ¬(0 < D o p v ∧ 0 < D o v q)) (n2 : ¬(0 < D o v p ∧ 0 < D o p w)) : D o v p = 0 := by
  rcases Int.lt_trichotomy (D o v p) 0 with h | h | h
  · exfalso
    have h' : 0 < D o p v := by rw [D_flip]; omega
    apply n1
    refine ⟨h', ?_⟩
    -- (p,r)(v,q) = (p,v)(r,q) + (p,q)(v,r)
    have e := D_four o p v r q
    have g1 := Int.mul_pos h' b2
    have g2 := Int.mul_pos hpq a1
    exact pos_of_mul b1 (by omega)
  · exact h
  · exfalso
    apply n2
    refine ⟨h, ?_⟩
    have e := D_four o v p r w
    have g1 := Int.mul_pos h a2
    have g2 := Int.mul_pos hvw b1
    exact pos_of_mul a1 (by omega)
end

section
variable {S : List Pt} {m : Ms} {a b l r : Pt}
theorem nb_mem (h : Ok S m) {u v : Pt} (hn : Nb m u v) : v ∈ S ∧ v ≠ u := by
  rcases hn with e | e
  · obtain ⟨w, e⟩ := Option.isSome_iff_exists.1 e
    exact ⟨(h.mem _ _ _ e).2.1, fun k => by have := h.pos _ _ _ e; rw [k, D_same0] at this; omega⟩
  · obtain ⟨w, e⟩ := Option.isSome_iff_exists.1 e
    exact ⟨(h.mem _ _ _ e).1, fun k => by have := h.pos _ _ _ e; rw [k, D_same0] at this; omega⟩

/-- A new corner's triangle holds no point, as the two old ones hold none. -/
theorem flip_empty1 (h : Ok S m) (hl : m (a, b) = some l) (hr : m (b, a) = some r) (hc : 0 < C a b l r) : ∀ x ∈ S, 0 ≤ D a r x → 0 ≤ D r l x → 0 ≤ D l a x → x = a ∨ x = r ∨ x = l := by
  intro x hx g1 g2 g3
  have h1 := h.pos _ _ _ hl
  have h2 := h.pos _ _ _ hr
  have h3 := quad_a h1 h2 hc
  have h4 := quad_b h1 h2 hc
  have f1 : 0 ≤ D b l x := by
    apply nonneg_of_mul h3
    have e := D_split a r l b l x
    rw [e]
    have k1 := mul_nn g2 (show 0 ≤ D b l a by rw [D_turn]; omega)
    have k2 := mul_nn g3 (Int.le_of_lt h4)
    have k3 : D b l l = 0 := D_same2 _ _
    rw [k3]; omega
  have f2 : 0 ≤ D r b x := by
    apply nonneg_of_mul h3
    have e := D_split a r l r b x
    rw [e]
    have k1 := mul_nn g2 (show 0 ≤ D r b a by rw [D_turn']; omega)
    have k2 := mul_nn g1 (show 0 ≤ D r b l by rw [D_turn']; omega)
    have k3 : D r b r = 0 := D_same1 _ _
    rw [k3]; omega
  rcases Int.le_total 0 (D a b x) with k | k
  · rcases h.empty a b l hl x hx k f1 g3 with e | e | e
    · exact .inl e
    · subst e
      have e1 := D_swap' l r x
      have e2 := D_turn x l r
      omega
    · exact .inr (.inr e)
  · rcases h.empty b a r hr x hx (by rw [D_swap']; omega) g1 f2 with e | e | e
    · subst e
      have e1 := D_swap' l r x
      have e2 := D_turn x l r
      omega
    · exact .inl e
    · exact .inr (.inl e)


/-- Along a ray: what the directions have in common. -/
theorem along {u v v' z : Pt} (h0 : D u v v' = 0) (y x : Pt) : D u v z * (D y x v' - D y x u) = D u v' z * (D y x v - D y x u) := by
  have h1 : (v.1 - u.1) * (v'.2 - u.2) = (v.2 - u.2) * (v'.1 - u.1) := by unfold D det at h0; omega
  unfold D det
  grind

theorem Ok.seg (h : Ok S m) {u v v' z : Pt} (hn : Nb m u v) (hv : v' ∈ S) (hne : v' ≠ u) (h0 : D u v v' = 0) (h1 : 0 < D u v' z) (h2 : D u v' z ≤ D u v z) : v' = v := by
  have E := along (z := z) h0
  have hz : 0 < D u v z := by omega
  rcases hn with e | e
  · obtain ⟨w, e⟩ := Option.isSome_iff_exists.1 e
    have p := h.pos _ _ _ e
    have E1 := E v w
    have E2 := E w u
    rw [D_same1] at E1
    rw [D_same2] at E2
    have t1 : D v w u = D u v w := D_turn u v w
    have t2 : D w u v = D u v w := D_turn' u v w
    rw [t1] at E1
    rw [t2] at E2
    have q1 : 0 ≤ D v w v' := by
      apply nonneg_of_mul hz
      have : D u v z * D v w v' = (D u v z - D u v' z) * D u v w := by grind
      rw [this]; exact mul_nn (by omega) (by omega)
    have q2 : 0 ≤ D w u v' := by
      apply nonneg_of_mul hz
      have : D u v z * D w u v' = D u v' z * D u v w := by grind
      rw [this]; exact mul_nn (by omega) (by omega)
    rcases h.empty u v w e v' hv (by omega) q1 q2 with f | f | f
    · exact absurd f hne
    · exact f
    · subst f; omega
  · obtain ⟨w, e⟩ := Option.isSome_iff_exists.1 e
    have p := h.pos _ _ _ e
    have E1 := E u w
    have E2 := E w v
    rw [D_same1] at E1
    rw [D_same2] at E2
    have t1 : D u w v = D v u w := D_turn v u w
    have t2 : D w v u = D v u w := D_turn' v u w
    rw [t1] at E1
    rw [t2] at E2
    have q1 : 0 ≤ D u w v' := by
      apply nonneg_of_mul hz
      have : D u v z * D u w v' = D u v' z * D v u w := by grind
      rw [this]; exact mul_nn (by omega) (by omega)
    have q2 : 0 ≤ D w v v' := by
      apply nonneg_of_mul hz
      have : D u v z * D w v v' = (D u v z - D u v' z) * D v u w := by grind
      rw [this]; exact mul_nn (by omega) (by omega)
    have q3 : D v u v' = 0 := by rw [D_swap']; omega
    rcases h.empty v u w e v' hv (by omega) q1 q2 with f | f | f
    · exact f
    · exact absurd f hne
    · subst f; omega

/-- On one ray from a point two neighbours are one. -/
theorem Ok.ray2 (h : Ok S m) {u v v' z : Pt} (hn : Nb m u v) (hn' : Nb m u v') (h0 : D u v v' = 0) (h1 : 0 < D u v z) (h2 : 0 < D u v' z) : v' = v := by
  rcases Int.le_total (D u v' z) (D u v z) with k | k
  · have := nb_mem h hn'
    exact h.seg hn this.1 this.2 h0 h2 k
  · have := nb_mem h hn
    exact (h.seg hn' this.1 this.2 (by rw [D_flip]; omega) h1 k).symm

/-- No neighbour goes within a merged angle. -/
theorem flip_fan_a (h : Ok S m) (hl : m (a, b) = some l) (hr : m (b, a) = some r) {v' : Pt} (hn : Nb m a v') (hb : v' ≠ b) : ¬(0 < D a r v' ∧ 0 < D a v' l) := by
  rintro ⟨g1, g2⟩
  have h1 := h.pos _ _ _ hl
  have har := h.rot _ _ _ hr
  rcases Int.lt_trichotomy (D a b v') 0 with k | k | k
  · exact h.fan a r b har v' hn ⟨g1, by rw [D_flip]; omega⟩
  · exact hb (h.ray2 (.inl (by rw [hl]; rfl)) hn k h1 g2)
  · exact h.fan a b l hl v' hn ⟨k, g2⟩

/-- At the corner across: its angle is parted in two. -/
theorem flip_fan_l1 (h : Ok S m) (hl : m (a, b) = some l) (hr : m (b, a) = some r) (hc : 0 < C a b l r) {v' : Pt} (hn : Nb m l v') : ¬(0 < D l a v' ∧ 0 < D l v' r) ∧ ¬(0 < D l r v' ∧ 0 < D l v' b) := by
  have h1 := h.pos _ _ _ hl
  have h2 := h.pos _ _ _ hr
  have h3 := quad_a h1 h2 hc
  have h4 := quad_b h1 h2 hc
  have hla := h.rot' hl
  have p1 : 0 < D l a r := by rw [D_turn']; exact h3
  have p2 : 0 < D l r b := by rw [D_turn]; exact h4
  have p3 : 0 < D l a b := by rw [D_turn']; exact h1
  have hf := h.fan l a b hla v' hn
  constructor
  · rintro ⟨g1, g2⟩
    apply hf
    refine ⟨g1, ?_⟩
    have e := D_four l a v' r b
    have k1 := Int.mul_pos g1 p2
    have k2 := Int.mul_pos p3 g2
    exact pos_of_mul p1 (by omega)
  · rintro ⟨g1, g2⟩
    apply hf
    refine ⟨?_, g2⟩
    have e := D_four l a r v' b
    have k1 := Int.mul_pos p1 g2
    have k2 := Int.mul_pos p3 g1
    have : 0 < D l r b * D l a v' := by rw [Int.mul_comm]; omega
    exact pos_of_mul p2 this

theorem flip_fan_l2 (h : Ok S m) (hl : m (a, b) = some l) (hr : m (b, a) = some r) (hc : 0 < C a b l r) {v w : Pt} (hm : m (l, v) = some w) (hv : v ≠ a) : ¬(0 < D l v r ∧ 0 < D l r w) := by
  rintro ⟨g1, g2⟩
  have h1 := h.pos _ _ _ hl
  have h2 := h.pos _ _ _ hr
  have h3 := quad_a h1 h2 hc
  have h4 := quad_b h1 h2 hc
  have hla := h.rot' hl
  have p1 : 0 < D l a r := by rw [D_turn']; exact h3
  have p2 : 0 < D l r b := by rw [D_turn]; exact h4
  have p3 : 0 < D l a b := by rw [D_turn']; exact h1
  have nv : Nb m l v := .inl (by rw [hm]; rfl)
  have na : Nb m l a := .inl (by rw [hla]; rfl)
  have k := angle g1 g2 p1 p2 (h.pos _ _ _ hm) p3 (h.fan l a b hla v nv) (h.fan l v w hm a na)
  exact hv (h.ray2 nv na k g1 p1).symm

/-- A FLIP OF A WRONG SIDE LEAVES ALL AS IT MUST BE. -/
theorem flip_ok (h : Ok S m) (hl : m (a, b) = some l) (hr : m (b, a) = some r) (hc : 0 < C a b l r) : Ok S (flipM m a b l r) := by
  have h1 := h.pos _ _ _ hl
  have h2 := h.pos _ _ _ hr
  have h3 := quad_a h1 h2 hc
  have h4 := quad_b h1 h2 hc
  have hc' : 0 < C b a r l := by rw [C_rev]; exact hc
  have ha := apart_of h1 h2 hc
  have e1 := h.rot _ _ _ hl; have e2 := h.rot' hl; have e3 := h.rot _ _ _ hr; have e4 := h.rot' hr
  obtain ⟨n1, n2⟩ := h.no_lr hl hr hc
  have ml := h.mem _ _ _ hl
  have mr := h.mem _ _ _ hr
  have E1 := flip_empty1 h hl hr hc
  have E2 := flip_empty1 h hr hl hc'
  have hsome := flip_some ha h hl hr
  have hnb : ∀ {u v : Pt}, Nb (flipM m a b l r) u v → (u = l ∧ v = r) ∨ (u = r ∧ v = l) ∨ (Nb m u v ∧ ¬(u = a ∧ v = b) ∧ ¬(u = b ∧ v = a)) := by
    intro u v hn
    unfold Nb at hn ⊢
    rw [hsome, hsome] at hn
    simp only [Prod.mk.injEq, ne_eq] at hn
    rcases hn with ((⟨p, q⟩ | ⟨p, q⟩) | ⟨p, q, q'⟩) | ((⟨p, q⟩ | ⟨p, q⟩) | ⟨p, q, q'⟩)
    · exact .inl ⟨p, q⟩
    · exact .inr (.inl ⟨p, q⟩)
    · exact .inr (.inr ⟨.inl p, q, q'⟩)
    · exact .inr (.inl ⟨q, p⟩)
    · exact .inl ⟨q, p⟩
    · exact .inr (.inr ⟨.inr p, fun k => q' ⟨k.2, k.1⟩, fun k => q ⟨k.2, k.1⟩⟩)
  refine ⟨?_, ?_, ?_, ?_, ?_, ?_⟩
  · intro u v w hm
    rcases flip_inv ha hm with ⟨rfl, rfl, rfl⟩ | ⟨rfl, rfl, rfl⟩ | ⟨rfl, rfl, rfl⟩ | ⟨rfl, rfl, rfl⟩ | ⟨rfl, rfl, rfl⟩ | ⟨rfl, rfl, rfl⟩ | ⟨k, _⟩
    · exact ⟨ml.1, mr.2.2, ml.2.2⟩
    · exact ⟨mr.2.2, ml.2.2, ml.1⟩
    · exact ⟨ml.2.2, ml.1, mr.2.2⟩
    · exact ⟨ml.2.1, ml.2.2, mr.2.2⟩
    · exact ⟨ml.2.2, mr.2.2, ml.2.1⟩
    · exact ⟨mr.2.2, ml.2.1, ml.2.2⟩
    · exact h.mem _ _ _ k
  · intro u v w hm
    rcases flip_inv ha hm with ⟨rfl, rfl, rfl⟩ | ⟨rfl, rfl, rfl⟩ | ⟨rfl, rfl, rfl⟩ | ⟨rfl, rfl, rfl⟩ | ⟨rfl, rfl, rfl⟩ | ⟨rfl, rfl, rfl⟩ | ⟨k, _⟩
    · exact h3
    · rw [D_turn]; exact h3
    · rw [D_turn']; exact h3
    · exact h4
    · rw [D_turn]; exact h4
    · rw [D_turn']; exact h4
    · exact h.pos _ _ _ k
  · intro u v w hm
    have hA := flipM_eq (m := m) ha
    rcases flip_inv ha hm with ⟨rfl, rfl, rfl⟩ | ⟨rfl, rfl, rfl⟩ | ⟨rfl, rfl, rfl⟩ | ⟨rfl, rfl, rfl⟩ | ⟨rfl, rfl, rfl⟩ | ⟨rfl, rfl, rfl⟩ | ⟨k, k1, k2, k3, k4, k5, k6, k7, k8⟩
    · rw [hA]; obtain ⟨q1, q2, q3, q4, q5, q6⟩ := ha; grind
    · rw [hA]; obtain ⟨q1, q2, q3, q4, q5, q6⟩ := ha; grind
    · rw [hA]; obtain ⟨q1, q2, q3, q4, q5, q6⟩ := ha; grind
    · rw [hA]; obtain ⟨q1, q2, q3, q4, q5, q6⟩ := ha; grind
    · rw [hA]; obtain ⟨q1, q2, q3, q4, q5, q6⟩ := ha; grind
    · rw [hA]; obtain ⟨q1, q2, q3, q4, q5, q6⟩ := ha; grind
    · have kk := h.rot _ _ _ k
      rw [hA, if_neg, if_neg, if_neg, if_neg, if_neg, if_neg, if_neg, if_neg]
      · exact kk
      · intro e; rw [e, hr] at kk; injection kk with kk; injection e with e e'; exact k6 (by rw [← kk, e])
      · intro e; rw [e, hl] at kk; injection kk with kk; injection e with e e'; exact k3 (by rw [← kk, e])
      · intro e; rw [e, e4] at kk; injection kk with kk; injection e with e e'; exact k1 (by rw [← kk, e])
      · intro e; rw [e, n1] at kk; cases kk
      · intro e; rw [e, e1] at kk; injection kk with kk; injection e with e e'; exact k7 (by rw [← kk, e])
      · intro e; rw [e, e2] at kk; injection kk with kk; injection e with e e'; exact k4 (by rw [← kk, e])
      · intro e; rw [e, n2] at kk; cases kk
      · intro e; rw [e, e3] at kk; injection kk with kk; injection e with e e'; exact k8 (by rw [← kk, e])
  · intro u v w hm x hx g1 g2 g3
    rcases flip_inv ha hm with ⟨rfl, rfl, rfl⟩ | ⟨rfl, rfl, rfl⟩ | ⟨rfl, rfl, rfl⟩ | ⟨rfl, rfl, rfl⟩ | ⟨rfl, rfl, rfl⟩ | ⟨rfl, rfl, rfl⟩ | ⟨k, _⟩
    · exact E1 x hx g1 g2 g3
    · rcases E1 x hx g3 g1 g2 with e | e | e <;> simp [e]
    · rcases E1 x hx g2 g3 g1 with e | e | e <;> simp [e]
    · exact E2 x hx g1 g2 g3
    · rcases E2 x hx g3 g1 g2 with e | e | e <;> simp [e]
    · rcases E2 x hx g2 g3 g1 with e | e | e <;> simp [e]
    · exact h.empty _ _ _ k x hx g1 g2 g3
  · intro u v w hm hn x hx
    have hns : ∀ f, flipM m a b l r f = none → ¬((f = (l, r) ∨ f = (r, l)) ∨ ((m f).isSome = true ∧ f ≠ (a, b) ∧ f ≠ (b, a))) := by
      intro f hf hh
      have := (hsome f).2 hh
      rw [hf] at this; cases this
    have hv := hns _ hn
    obtain ⟨q1, q2, q3, q4, q5, q6⟩ := ha
    have hold : ∀ {u v z : Pt}, m (u, v) = some z → ¬(u = a ∧ v = b) → ¬(u = b ∧ v = a) → ¬(((v, u) = (l, r) ∨ (v, u) = (r, l)) ∨ ((m (v, u)).isSome = true ∧ (v, u) ≠ (a, b) ∧ (v, u) ≠ (b, a))) → 0 ≤ D u v x := by
      intro u v z k c1 c2 hv
      refine h.hull u v z k ?_ x hx
      cases e : m (v, u) with
      | none => rfl
      | some y =>
        exfalso
        apply hv
        refine .inr ⟨by rw [e]; rfl, ?_, ?_⟩
        · intro k; injection k with k k'; exact c2 ⟨k', k⟩
        · intro k; injection k with k k'; exact c1 ⟨k', k⟩
    rcases flip_inv ⟨q1, q2, q3, q4, q5, q6⟩ hm with ⟨rfl, rfl, rfl⟩ | ⟨rfl, rfl, rfl⟩ | ⟨rfl, rfl, rfl⟩ | ⟨rfl, rfl, rfl⟩ | ⟨rfl, rfl, rfl⟩ | ⟨rfl, rfl, rfl⟩ | ⟨k, k1, k2, k3, k4, k5, k6, k7, k8⟩
    · exact hold e3 (fun k => q4 k.2.symm) (fun k => q1 k.1) hv
    · exact absurd (.inl (.inl rfl)) hv
    · exact hold e2 (fun k => q2 k.1.symm) (fun k => q3 k.1.symm) hv
    · exact hold e1 (fun k => q1 k.1.symm) (fun k => q2 k.2.symm) hv
    · exact absurd (.inl (.inr rfl)) hv
    · exact hold e4 (fun k => q5 k.1.symm) (fun k => q4 k.1.symm) hv
    · exact hold k (fun c => k7 (by rw [c.1, c.2])) (fun c => k8 (by rw [c.1, c.2])) hv
  · intro u v w hm v' hn
    have hn' := hnb hn
    rcases flip_inv ha hm with ⟨rfl, rfl, rfl⟩ | ⟨rfl, rfl, rfl⟩ | ⟨rfl, rfl, rfl⟩ | ⟨rfl, rfl, rfl⟩ | ⟨rfl, rfl, rfl⟩ | ⟨rfl, rfl, rfl⟩ | ⟨k, k1, k2, k3, k4, k5, k6, k7, k8⟩
    · -- a: (a, r, l)
      rcases hn' with ⟨q, _⟩ | ⟨q, _⟩ | ⟨q, q1, _⟩
      · exact absurd q ha.al
      · exact absurd q ha.ar
      · exact flip_fan_a h hl hr q (fun k => q1 ⟨rfl, k⟩)
    · -- r: (r, l, a)
      rcases hn' with ⟨q, _⟩ | ⟨_, q⟩ | ⟨q, q1, _⟩
      · exact absurd q.symm ha.lr
      · rw [q, D_same2]; omega
      · exact (flip_fan_l1 h hr hl hc' q).2
    · -- l: (l, a, r)
      rcases hn' with ⟨_, q⟩ | ⟨q, _⟩ | ⟨q, q1, _⟩
      · rw [q, D_same2]; omega
      · exact absurd q ha.lr
      · exact (flip_fan_l1 h hl hr hc q).1
    · -- b: (b, l, r)
      rcases hn' with ⟨q, _⟩ | ⟨q, _⟩ | ⟨q, _, q1⟩
      · exact absurd q ha.bl
      · exact absurd q ha.br
      · exact flip_fan_a h hr hl q (fun k => q1 ⟨rfl, k⟩)
    · -- l: (l, r, b)
      rcases hn' with ⟨_, q⟩ | ⟨q, _⟩ | ⟨q, q1, _⟩
      · rw [q, D_same2]; omega
      · exact absurd q ha.lr
      · exact (flip_fan_l1 h hl hr hc q).2
    · -- r: (r, b, l)
      rcases hn' with ⟨q, _⟩ | ⟨_, q⟩ | ⟨q, q1, _⟩
      · exact absurd q.symm ha.lr
      · rw [q, D_same2]; omega
      · exact (flip_fan_l1 h hr hl hc' q).1
    · rcases hn' with ⟨q, q'⟩ | ⟨q, q'⟩ | ⟨q, _⟩
      · subst q; subst q'
        exact flip_fan_l2 h hl hr hc k (fun e => k3 (by rw [e]))
      · subst q; subst q'
        exact flip_fan_l2 h hr hl hc' k (fun e => k6 (by rw [e]))
      · exact h.fan _ _ _ k v' q
end

end Go.Proofs.YtgeoffpcmkofkaaGreat
