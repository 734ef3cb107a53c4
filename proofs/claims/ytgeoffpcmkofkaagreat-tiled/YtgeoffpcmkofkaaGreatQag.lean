/- Ta; Ma; Mb; Mc; Na: texts laid into one. -/
import Derived.Test.YtgeoffpcmkofkaaGreatQaf
import Derived.Maps.OwnSet
import Derived.Maps.RangeWalk
import Derived.Maps.Ext
import Derived.DeepKeys4
import Derived.Test.YtgeoffpcmkofkaaGreatQae
import Derived.Deep.RegionHeld3
/- Meshes of triangles over whole numbers: what must hold of one, and that a flip of a wrong side keeps it. -/
namespace Go.Proofs.YtgeoffpcmkofkaaGreat

/-! ### Signs -/
theorem pos_of_mul {d x : Int} (hd : 0 < d) (h : 0 < d * x) : 0 < x := by
  rcases lt_or_ge' 0 x with h1 | h1
  · exact h1
  · have := Int.mul_nonpos_of_nonneg_of_nonpos (Int.le_of_lt hd) h1; omega
theorem nonneg_of_mul {d x : Int} (hd : 0 < d) (h : 0 ≤ d * x) : 0 ≤ x := Int.nonneg_of_mul_nonneg_right h hd
theorem neg_of_mul {d x : Int} (hd : 0 < d) (h : d * x < 0) : x < 0 := by
  rcases lt_or_ge' x 0 with h1 | h1
  · exact h1
  · have := Int.mul_nonneg (Int.le_of_lt hd) h1; omega
theorem mul_np {x y : Int} (hx : 0 ≤ x) (hy : y ≤ 0) : x * y ≤ 0 := Int.mul_nonpos_of_nonneg_of_nonpos hx hy
theorem mul_nn {x y : Int} (hx : 0 ≤ x) (hy : 0 ≤ y) : 0 ≤ x * y := Int.mul_nonneg hx hy
/-! ### Sides -/
theorem D_turn (a b c : Pt) : D b c a = D a b c := by unfold D det; grind
theorem D_turn' (a b c : Pt) : D c a b = D a b c := by unfold D det; grind
theorem D_flip (a b c : Pt) : D a c b = -D a b c := by unfold D det; grind
theorem D_same1 (a b : Pt) : D a b a = 0 := by unfold D det; grind
theorem D_same2 (a b : Pt) : D a b b = 0 := by unfold D det; grind
theorem D_same0 (a b : Pt) : D a a b = 0 := by unfold D det; grind
/-- Round one point. -/
theorem D_four (o a b c d : Pt) : D o a c * D o b d = D o a b * D o c d + D o a d * D o b c := by unfold D det; grind
/-- Any point's side of a line out of three others. -/
theorem D_split (a b c x y z : Pt) : D a b c * D x y z = D b c z * D x y a + D c a z * D x y b + D a b z * D x y c := by unfold D det; grind
theorem D_sum (a b c x : Pt) : D a b x + D b c x + D c a x = D a b c := by unfold D det; grind
def sq (a b : Pt) : Int := (b.1 - a.1) * (b.1 - a.1) + (b.2 - a.2) * (b.2 - a.2)
theorem sq_nn (a b : Pt) : 0 ≤ sq a b := by
  have h1 := sq_nonneg (b.1 - a.1)
  have h2 := sq_nonneg (b.2 - a.2)
  unfold sq; omega
theorem sq_pos {a b : Pt} (h : a ≠ b) : 0 < sq a b := by
  rcases lt_or_ge' 0 (sq a b) with h1 | h1
  · exact h1
  · have h2 := sq_nonneg (b.1 - a.1)
    have h3 := sq_nonneg (b.2 - a.2)
    unfold sq at h1
    have e1 : (b.1 - a.1) * (b.1 - a.1) = 0 := by omega
    have e2 : (b.2 - a.2) * (b.2 - a.2) = 0 := by omega
    have f1 : b.1 - a.1 = 0 := by rcases Int.mul_eq_zero.1 e1 with h | h <;> exact h
    have f2 : b.2 - a.2 = 0 := by rcases Int.mul_eq_zero.1 e2 with h | h <;> exact h
    exact absurd (pt_ext (by omega) (by omega)) h
/-- A circle from one of its points. -/
theorem C_from (a b l r : Pt) : C a b l r = sq a b * D a r l - sq a l * D a r b - sq a r * D a b l := by
  unfold C cdet sq D det; grind
theorem C_turn' (u v p q : Pt) : C p u v q = C u v p q := by unfold C cdet; grind
theorem C_rev (a b l r : Pt) : C b a r l = C a b l r := by rw [C_swap, C_anti]; omega
theorem ne_of_D {a b c : Pt} (h : D a b c ≠ 0) : a ≠ b := fun e => h (by rw [e, D_same0])
theorem ne_of_D' {a b c : Pt} (h : D a b c ≠ 0) : a ≠ c := fun e => h (by rw [← e, D_same1])
theorem ne_of_D2 {a b c : Pt} (h : D a b c ≠ 0) : b ≠ c := fun e => h (by rw [← e, D_same2])

/-! ### The four corners of a wrong side -/
theorem quad_a {a b l r : Pt} (h1 : 0 < D a b l) (h2 : 0 < D b a r) (hc : 0 < C a b l r) : 0 < D a r l := by
  rw [C_from] at hc
  have e : D a r b = D b a r := by rw [← D_turn a r b, ← D_turn]
  rw [e] at hc
  have g1 := mul_nn (sq_nn a l) (Int.le_of_lt h2)
  have g2 := mul_nn (sq_nn a r) (Int.le_of_lt h1)
  have hb : 0 < sq a b := sq_pos (ne_of_D (c := l) (by omega))
  exact pos_of_mul hb (by omega)
theorem quad_b {a b l r : Pt} (h1 : 0 < D a b l) (h2 : 0 < D b a r) (hc : 0 < C a b l r) : 0 < D b l r :=
  quad_a h2 h1 (by rw [C_rev]; exact hc)

/-- What lies beyond both sides at a corner does not lie within the circle. -/
theorem corner {a r l x : Pt} (ht : 0 < D a r l) (h1 : D l a x ≤ 0) (h2 : D a r x ≤ 0) : C a r l x ≤ 0 := by
  rw [C_from]
  have e1 : D a x l = D l a x := by rw [← D_turn l a x]
  have e2 : D a x r = -D a r x := D_flip a r x
  rw [e1, e2]
  have g1 := mul_np (sq_nn a r) h1
  have g2 := mul_nn (sq_nn a l) (show 0 ≤ -D a r x by omega)
  have g3 := mul_nn (sq_nn a x) (Int.le_of_lt ht)
  omega

/-- A circle through two points that holds a third holds what that one's circle holds on its side. -/
theorem chord {u v x y p : Pt} (hx : 0 < D u v x) (hy : 0 < D u v y) (hxy : 0 < C u v x y) (hp : 0 ≤ D u v p) (hyp : 0 < C u v y p) : 0 < C u v x p := by
  rw [C_cross] at *
  apply pos_of_mul hy
  have e : D u v y * (dot u v x * D u v p - dot u v p * D u v x) = D u v p * (dot u v x * D u v y - dot u v y * D u v x) + D u v x * (dot u v y * D u v p - dot u v p * D u v y) := by grind
  rw [e]
  have a1 := mul_nn hp (Int.le_of_lt hxy)
  have a2 := Int.mul_pos hx hyp
  omega

theorem flip_la {a b l r x : Pt} (h1 : 0 < D a b l) (h2 : 0 < D b a r) (hc : 0 < C a b l r) (hx : 0 < C a r l x) (hs : 0 ≤ D l a x) : 0 < C a b l x := by
  have h3 := quad_a h1 h2 hc
  have := chord (u := l) (v := a) (x := b) (y := r) (p := x) (by rw [D_turn']; exact h1) (by rw [D_turn']; exact h3) (by rw [C_turn']; exact hc) hs (by rw [C_turn']; exact hx)
  rwa [C_turn'] at this
theorem flip_ar {a b l r x : Pt} (h1 : 0 < D a b l) (h2 : 0 < D b a r) (hc : 0 < C a b l r) (hx : 0 < C a r l x) (hs : 0 ≤ D a r x) : 0 < C b a r x := by
  have h3 := quad_a h1 h2 hc
  have := chord (u := a) (v := r) (x := b) (y := l) (p := x) (by rw [D_turn]; exact h2) h3 (by rw [C_turn, C_rev]; exact hc) hs hx
  rwa [C_turn] at this

/-- THE CIRCLES OF A FLIP, POINT BY POINT. -/
theorem flip_pt {a b l r : Pt} (h1 : 0 < D a b l) (h2 : 0 < D b a r) (hc : 0 < C a b l r) (x : Pt) :
    ((0 < C a r l x ∨ 0 < C b l r x) → (0 < C a b l x ∨ 0 < C b a r x)) ∧ ((0 < C a r l x ∧ 0 < C b l r x) → (0 < C a b l x ∧ 0 < C b a r x)) := by
  have h3 := quad_a h1 h2 hc
  have h4 := quad_b h1 h2 hc
  have hc' : 0 < C b a r l := by rw [C_rev]; exact hc
  have A1 : 0 < C a r l x → 0 ≤ D l a x → 0 < C a b l x := flip_la h1 h2 hc
  have A2 : 0 < C a r l x → 0 ≤ D a r x → 0 < C b a r x := flip_ar h1 h2 hc
  have B1 : 0 < C b l r x → 0 ≤ D r b x → 0 < C b a r x := flip_la h2 h1 hc'
  have B2 : 0 < C b l r x → 0 ≤ D b l x → 0 < C a b l x := flip_ar h2 h1 hc'
  have X1 : 0 < C a r l x → ¬(D l a x ≤ 0 ∧ D a r x ≤ 0) := fun h ⟨g1, g2⟩ => by have := corner h3 g1 g2; omega
  have X2 : 0 < C b l r x → ¬(D r b x ≤ 0 ∧ D b l x ≤ 0) := fun h ⟨g1, g2⟩ => by have := corner h4 g1 g2; omega
  have Y1 : 0 < C a r l x → ¬(D r l x ≤ 0 ∧ D l a x ≤ 0) := fun h ⟨g1, g2⟩ => by
    have := corner (a := l) (r := a) (l := r) (x := x) (by rw [D_turn']; exact h3) g1 g2
    rw [C_turn'] at this; omega
  have Y2 : 0 < C a r l x → ¬(D a r x ≤ 0 ∧ D r l x ≤ 0) := fun h ⟨g1, g2⟩ => by
    have := corner (a := r) (r := l) (l := a) (x := x) (by rw [D_turn]; exact h3) g1 g2
    rw [C_turn] at this; omega
  have Y3 : 0 < C b l r x → ¬(D l r x ≤ 0 ∧ D r b x ≤ 0) := fun h ⟨g1, g2⟩ => by
    have := corner (a := r) (r := b) (l := l) (x := x) (by rw [D_turn']; exact h4) g1 g2
    rw [C_turn'] at this; omega
  have Y4 : 0 < C b l r x → ¬(D b l x ≤ 0 ∧ D l r x ≤ 0) := fun h ⟨g1, g2⟩ => by
    have := corner (a := l) (r := r) (l := b) (x := x) (by rw [D_turn]; exact h4) g1 g2
    rw [C_turn] at this; omega
  have e : D l r x = -D r l x := D_swap' r l x
  constructor
  · rintro (h | h)
    · rcases lt_or_ge' (D l a x) 0 with g | g
      · exact .inr (A2 h (by have := X1 h; omega))
      · exact .inl (A1 h g)
    · rcases lt_or_ge' (D r b x) 0 with g | g
      · exact .inl (B2 h (by have := X2 h; omega))
      · exact .inr (B1 h g)
  · rintro ⟨h, k⟩
    have x1 := X1 h; have x2 := X2 k; have y1 := Y1 h; have y2 := Y2 h; have y3 := Y3 k; have y4 := Y4 k
    constructor
    · rcases lt_or_ge' (D l a x) 0 with g | g
      · exact B2 k (by omega)
      · exact A1 h g
    · rcases lt_or_ge' (D a r x) 0 with g | g
      · exact B1 k (by omega)
      · exact A2 h g

/-! ### Meshes: of each directed side the corner across -/
abbrev Ed := Pt × Pt
abbrev Ms := Ed → Option Pt
def setM (m : Ms) (e : Ed) (c : Pt) : Ms := fun f => if f = e then some c else m f
def delM (m : Ms) (e : Ed) : Ms := fun f => if f = e then none else m f
def addM (m : Ms) (a b c : Pt) : Ms := setM (setM (setM m (a, b) c) (b, c) a) (c, a) b
def flipM (m : Ms) (a b l r : Pt) : Ms := addM (addM (delM (delM m (a, b)) (b, a)) a r l) b l r

/-- There is a side between two points, one way or the other. -/
def Nb (m : Ms) (u v : Pt) : Prop := (m (u, v)).isSome = true ∨ (m (v, u)).isSome = true

structure Ok (S : List Pt) (m : Ms) : Prop where
  mem : ∀ u v w, m (u, v) = some w → u ∈ S ∧ v ∈ S ∧ w ∈ S
  pos : ∀ u v w, m (u, v) = some w → 0 < D u v w
  rot : ∀ u v w, m (u, v) = some w → m (v, w) = some u
  empty : ∀ u v w, m (u, v) = some w → ∀ x ∈ S, 0 ≤ D u v x → 0 ≤ D v w x → 0 ≤ D w u x → x = u ∨ x = v ∨ x = w
  hull : ∀ u v w, m (u, v) = some w → m (v, u) = none → ∀ x ∈ S, 0 ≤ D u v x
  fan : ∀ u v w, m (u, v) = some w → ∀ v', Nb m u v' → ¬(0 < D u v v' ∧ 0 < D u v' w)

theorem Ok.rot' {S : List Pt} {m : Ms} (h : Ok S m) {u v w : Pt} (hm : m (u, v) = some w) : m (w, u) = some v := h.rot _ _ _ (h.rot _ _ _ hm)

/-- On one ray from a point two neighbours are one. -/
theorem Ok.ray {S : List Pt} {m : Ms} (h : Ok S m) {u v w v' : Pt} (hm : m (u, v) = some w) (hn : v' ∈ S) (hne : v' ≠ u) (h0 : D u v v' = 0) (hd : 0 < D u v' w) (hle : 0 ≤ D v w v') : v' = v := by
  have h1 : 0 ≤ D w u v' := by have := D_turn w u v'; omega
  rcases h.empty u v w hm v' hn (by omega) hle h1 with e | e | e
  · exact absurd e hne
  · exact e
  · subst e
    have := h.pos u v v' hm
    omega

section
variable {S : List Pt} {m : Ms} {a b l r : Pt}
/-- No side joins the two corners across a wrong side yet. -/
theorem Ok.no_lr (h : Ok S m) (hl : m (a, b) = some l) (hr : m (b, a) = some r) (hc : 0 < C a b l r) : m (l, r) = none ∧ m (r, l) = none := by
  have h1 := h.pos _ _ _ hl
  have h2 := h.pos _ _ _ hr
  have h3 := quad_a h1 h2 hc
  have h4 := quad_b h1 h2 hc
  have hla := h.rot' hl
  have hf := h.fan l a b hla r
  have g1 : 0 < D l a r := by rw [D_turn']; exact h3
  have g2 : 0 < D l r b := by rw [D_turn]; exact h4
  constructor
  · cases e : m (l, r) with
    | none => rfl
    | some z => exact absurd ⟨g1, g2⟩ (hf (.inl (by rw [e]; rfl)))
  · cases e : m (r, l) with
    | none => rfl
    | some z => exact absurd ⟨g1, g2⟩ (hf (.inr (by rw [e]; rfl)))

structure Apart (a b l r : Pt) : Prop where
  ab : a ≠ b
  al : a ≠ l
  bl : b ≠ l
  br : b ≠ r
  ar : a ≠ r
  lr : l ≠ r
theorem apart_of (h1 : 0 < D a b l) (h2 : 0 < D b a r) (hc : 0 < C a b l r) : Apart a b l r := by
  have h3 := quad_a h1 h2 hc
  exact ⟨ne_of_D (c := l) (by omega), ne_of_D' (b := b) (by omega), ne_of_D2 (a := a) (by omega), ne_of_D' (b := a) (by omega), ne_of_D2 (a := b) (by omega), fun e => ne_of_D2 (a := a) (b := r) (c := l) (by omega) e.symm⟩

/-- The flipped mesh, side by side. -/
theorem flipM_eq (ha : Apart a b l r) (f : Ed) : flipM m a b l r f =
    if f = (a, r) then some l else if f = (r, l) then some a else if f = (l, a) then some r else if f = (b, l) then some r else if f = (l, r) then some b else if f = (r, b) then some l
    else if f = (a, b) then none else if f = (b, a) then none else m f := by
  obtain ⟨x, y⟩ := f
  obtain ⟨h1, h2, h3, h4, h5, h6⟩ := ha
  simp only [flipM, addM, setM, delM, Prod.mk.injEq]
  grind

theorem flip_inv (ha : Apart a b l r) {u v w : Pt} (h : flipM m a b l r (u, v) = some w) :
    (u = a ∧ v = r ∧ w = l) ∨ (u = r ∧ v = l ∧ w = a) ∨ (u = l ∧ v = a ∧ w = r) ∨ (u = b ∧ v = l ∧ w = r) ∨ (u = l ∧ v = r ∧ w = b) ∨ (u = r ∧ v = b ∧ w = l) ∨
    (m (u, v) = some w ∧ (u, v) ≠ (a, r) ∧ (u, v) ≠ (r, l) ∧ (u, v) ≠ (l, a) ∧ (u, v) ≠ (b, l) ∧ (u, v) ≠ (l, r) ∧ (u, v) ≠ (r, b) ∧ (u, v) ≠ (a, b) ∧ (u, v) ≠ (b, a)) := by
  rw [flipM_eq ha] at h
  grind

/-- Which sides there are behind a flip. -/
theorem flip_some (ha : Apart a b l r) (h : Ok S m) (hl : m (a, b) = some l) (hr : m (b, a) = some r) (f : Ed) :
    (flipM m a b l r f).isSome = true ↔ (f = (l, r) ∨ f = (r, l)) ∨ ((m f).isSome = true ∧ f ≠ (a, b) ∧ f ≠ (b, a)) := by
  have e1 := h.rot _ _ _ hl; have e2 := h.rot' hl; have e3 := h.rot _ _ _ hr; have e4 := h.rot' hr
  obtain ⟨x, y⟩ := f
  rw [flipM_eq ha]
  obtain ⟨h1, h2, h3, h4, h5, h6⟩ := ha
  grind

/-- Two angles at one point that have a direction in common, none of whose ends goes within the other, begin together. -/
theorem angle {o v w p q r : Pt} (a1 : 0 < D o v r) (a2 : 0 < D o r w) (b1 : 0 < D o p r) (b2 : 0 < D o r q) (hvw : 0 < D o v w) (hpq : 0 < D o p q)
    (n1 : ¬(0 < D o p v ∧ 0 < D o v q)) (n2 : ¬(0 < D o v p ∧ 0 < D o p w)) : D o v p = 0 := by
  rcases Int.lt_trichotomy (D o v p) 0 with h | h | h
  · exfalso
    have h' : 0 < D o p v := by rw [D_flip]; omega
    apply n1
    refine ⟨h', ?_⟩
    -- (p,r)(v,q) = (p,v)(r,q) + (p,q)(v,r)
    have e := D_four o p v r q
    have g1 := Int.mul_pos h' b2
    have g2 := Int.mul_pos hpq a1
    exact pos_of_mul b1 (by omega)
  · exact h
  · exfalso
    apply n2
    refine ⟨h, ?_⟩
    have e := D_four o v p r w
    have g1 := Int.mul_pos h a2
    have g2 := Int.mul_pos hvw b1
    exact pos_of_mul a1 (by omega)
end

section
variable {S : List Pt} {m : Ms} {a b l r : Pt}
theorem nb_mem (h : Ok S m) {u v : Pt} (hn : Nb m u v) : v ∈ S ∧ v ≠ u := by
  rcases hn with e | e
  · obtain ⟨w, e⟩ := Option.isSome_iff_exists.1 e
    exact ⟨(h.mem _ _ _ e).2.1, fun k => by have := h.pos _ _ _ e; rw [k, D_same0] at this; omega⟩
  · obtain ⟨w, e⟩ := Option.isSome_iff_exists.1 e
    exact ⟨(h.mem _ _ _ e).1, fun k => by have := h.pos _ _ _ e; rw [k, D_same0] at this; omega⟩

/-- A new corner's triangle holds no point, as the two old ones hold none. -/
theorem flip_empty1 (h : Ok S m) (hl : m (a, b) = some l) (hr : m (b, a) = some r) (hc : 0 < C a b l r) : ∀ x ∈ S, 0 ≤ D a r x → 0 ≤ D r l x → 0 ≤ D l a x → x = a ∨ x = r ∨ x = l := by
  intro x hx g1 g2 g3
  have h1 := h.pos _ _ _ hl
  have h2 := h.pos _ _ _ hr
  have h3 := quad_a h1 h2 hc
  have h4 := quad_b h1 h2 hc
  have f1 : 0 ≤ D b l x := by
    apply nonneg_of_mul h3
    have e := D_split a r l b l x
    rw [e]
    have k1 := mul_nn g2 (show 0 ≤ D b l a by rw [D_turn]; omega)
    have k2 := mul_nn g3 (Int.le_of_lt h4)
    have k3 : D b l l = 0 := D_same2 _ _
    rw [k3]; omega
  have f2 : 0 ≤ D r b x := by
    apply nonneg_of_mul h3
    have e := D_split a r l r b x
    rw [e]
    have k1 := mul_nn g2 (show 0 ≤ D r b a by rw [D_turn']; omega)
    have k2 := mul_nn g1 (show 0 ≤ D r b l by rw [D_turn']; omega)
    have k3 : D r b r = 0 := D_same1 _ _
    rw [k3]; omega
  rcases Int.le_total 0 (D a b x) with k | k
  · rcases h.empty a b l hl x hx k f1 g3 with e | e | e
    · exact .inl e
    · subst e
      have e1 := D_swap' l r x
      have e2 := D_turn x l r
      omega
    · exact .inr (.inr e)
  · rcases h.empty b a r hr x hx (by rw [D_swap']; omega) g1 f2 with e | e | e
    · subst e
      have e1 := D_swap' l r x
      have e2 := D_turn x l r
      omega
    · exact .inl e
    · exact .inr (.inl e)


/-- Along a ray: what the directions have in common. -/
theorem along {u v v' z : Pt} (h0 : D u v v' = 0) (y x : Pt) : D u v z * (D y x v' - D y x u) = D u v' z * (D y x v - D y x u) := by
  have h1 : (v.1 - u.1) * (v'.2 - u.2) = (v.2 - u.2) * (v'.1 - u.1) := by unfold D det at h0; omega
  unfold D det
  grind

theorem Ok.seg (h : Ok S m) {u v v' z : Pt} (hn : Nb m u v) (hv : v' ∈ S) (hne : v' ≠ u) (h0 : D u v v' = 0) (h1 : 0 < D u v' z) (h2 : D u v' z ≤ D u v z) : v' = v := by
  have E := along (z := z) h0
  have hz : 0 < D u v z := by omega
  rcases hn with e | e
  · obtain ⟨w, e⟩ := Option.isSome_iff_exists.1 e
    have p := h.pos _ _ _ e
    have E1 := E v w
    have E2 := E w u
    rw [D_same1] at E1
    rw [D_same2] at E2
    have t1 : D v w u = D u v w := D_turn u v w
    have t2 : D w u v = D u v w := D_turn' u v w
    rw [t1] at E1
    rw [t2] at E2
    have q1 : 0 ≤ D v w v' := by
      apply nonneg_of_mul hz
      have : D u v z * D v w v' = (D u v z - D u v' z) * D u v w := by grind
      rw [this]; exact mul_nn (by omega) (by omega)
    have q2 : 0 ≤ D w u v' := by
      apply nonneg_of_mul hz
      have : D u v z * D w u v' = D u v' z * D u v w := by grind
      rw [this]; exact mul_nn (by omega) (by omega)
    rcases h.empty u v w e v' hv (by omega) q1 q2 with f | f | f
    · exact absurd f hne
    · exact f
    · subst f; omega
  · obtain ⟨w, e⟩ := Option.isSome_iff_exists.1 e
    have p := h.pos _ _ _ e
    have E1 := E u w
    have E2 := E w v
    rw [D_same1] at E1
    rw [D_same2] at E2
    have t1 : D u w v = D v u w := D_turn v u w
    have t2 : D w v u = D v u w := D_turn' v u w
    rw [t1] at E1
    rw [t2] at E2
    have q1 : 0 ≤ D u w v' := by
      apply nonneg_of_mul hz
      have : D u v z * D u w v' = D u v' z * D v u w := by grind
      rw [this]; exact mul_nn (by omega) (by omega)
    have q2 : 0 ≤ D w v v' := by
      apply nonneg_of_mul hz
      have : D u v z * D w v v' = (D u v z - D u v' z) * D v u w := by grind
      rw [this]; exact mul_nn (by omega) (by omega)
    have q3 : D v u v' = 0 := by rw [D_swap']; omega
    rcases h.empty v u w e v' hv (by omega) q1 q2 with f | f | f
    · exact f
    · exact absurd f hne
    · subst f; omega

/-- On one ray from a point two neighbours are one. -/
theorem Ok.ray2 (h : Ok S m) {u v v' z : Pt} (hn : Nb m u v) (hn' : Nb m u v') (h0 : D u v v' = 0) (h1 : 0 < D u v z) (h2 : 0 < D u v' z) : v' = v := by
  rcases Int.le_total (D u v' z) (D u v z) with k | k
  · have := nb_mem h hn'
    exact h.seg hn this.1 this.2 h0 h2 k
  · have := nb_mem h hn
    exact (h.seg hn' this.1 this.2 (by rw [D_flip]; omega) h1 k).symm

/-- No neighbour goes within a merged angle. -/
theorem flip_fan_a (h : Ok S m) (hl : m (a, b) = some l) (hr : m (b, a) = some r) {v' : Pt} (hn : Nb m a v') (hb : v' ≠ b) : ¬(0 < D a r v' ∧ 0 < D a v' l) := by
  rintro ⟨g1, g2⟩
  have h1 := h.pos _ _ _ hl
  have har := h.rot _ _ _ hr
  rcases Int.lt_trichotomy (D a b v') 0 with k | k | k
  · exact h.fan a r b har v' hn ⟨g1, by rw [D_flip]; omega⟩
  · exact hb (h.ray2 (.inl (by rw [hl]; rfl)) hn k h1 g2)
  · exact h.fan a b l hl v' hn ⟨k, g2⟩

/-- At the corner across: its angle is parted in two. -/
theorem flip_fan_l1 (h : Ok S m) (hl : m (a, b) = some l) (hr : m (b, a) = some r) (hc : 0 < C a b l r) {v' : Pt} (hn : Nb m l v') : ¬(0 < D l a v' ∧ 0 < D l v' r) ∧ ¬(0 < D l r v' ∧ 0 < D l v' b) := by
  have h1 := h.pos _ _ _ hl
  have h2 := h.pos _ _ _ hr
  have h3 := quad_a h1 h2 hc
  have h4 := quad_b h1 h2 hc
  have hla := h.rot' hl
  have p1 : 0 < D l a r := by rw [D_turn']; exact h3
  have p2 : 0 < D l r b := by rw [D_turn]; exact h4
  have p3 : 0 < D l a b := by rw [D_turn']; exact h1
  have hf := h.fan l a b hla v' hn
  constructor
  · rintro ⟨g1, g2⟩
    apply hf
    refine ⟨g1, ?_⟩
    have e := D_four l a v' r b
    have k1 := Int.mul_pos g1 p2
    have k2 := Int.mul_pos p3 g2
    exact pos_of_mul p1 (by omega)
  · rintro ⟨g1, g2⟩
    apply hf
    refine ⟨?_, g2⟩
    have e := D_four l a r v' b
    have k1 := Int.mul_pos p1 g2
    have k2 := Int.mul_pos p3 g1
    have : 0 < D l r b * D l a v' := by rw [Int.mul_comm]; omega
    exact pos_of_mul p2 this

theorem flip_fan_l2 (h : Ok S m) (hl : m (a, b) = some l) (hr : m (b, a) = some r) (hc : 0 < C a b l r) {v w : Pt} (hm : m (l, v) = some w) (hv : v ≠ a) : ¬(0 < D l v r ∧ 0 < D l r w) := by
  rintro ⟨g1, g2⟩
  have h1 := h.pos _ _ _ hl
  have h2 := h.pos _ _ _ hr
  have h3 := quad_a h1 h2 hc
  have h4 := quad_b h1 h2 hc
  have hla := h.rot' hl
  have p1 : 0 < D l a r := by rw [D_turn']; exact h3
  have p2 : 0 < D l r b := by rw [D_turn]; exact h4
  have p3 : 0 < D l a b := by rw [D_turn']; exact h1
  have nv : Nb m l v := .inl (by rw [hm]; rfl)
  have na : Nb m l a := .inl (by rw [hla]; rfl)
  have k := angle g1 g2 p1 p2 (h.pos _ _ _ hm) p3 (h.fan l a b hla v nv) (h.fan l v w hm a na)
  exact hv (h.ray2 nv na k g1 p1).symm

/-- A FLIP OF A WRONG SIDE LEAVES ALL AS IT MUST BE. -/
theorem flip_ok (h : Ok S m) (hl : m (a, b) = some l) (hr : m (b, a) = some r) (hc : 0 < C a b l r) : Ok S (flipM m a b l r) := by
  have h1 := h.pos _ _ _ hl
  have h2 := h.pos _ _ _ hr
  have h3 := quad_a h1 h2 hc
  have h4 := quad_b h1 h2 hc
  have hc' : 0 < C b a r l := by rw [C_rev]; exact hc
  have ha := apart_of h1 h2 hc
  have e1 := h.rot _ _ _ hl; have e2 := h.rot' hl; have e3 := h.rot _ _ _ hr; have e4 := h.rot' hr
  obtain ⟨n1, n2⟩ := h.no_lr hl hr hc
  have ml := h.mem _ _ _ hl
  have mr := h.mem _ _ _ hr
  have E1 := flip_empty1 h hl hr hc
  have E2 := flip_empty1 h hr hl hc'
  have hsome := flip_some ha h hl hr
  have hnb : ∀ {u v : Pt}, Nb (flipM m a b l r) u v → (u = l ∧ v = r) ∨ (u = r ∧ v = l) ∨ (Nb m u v ∧ ¬(u = a ∧ v = b) ∧ ¬(u = b ∧ v = a)) := by
    intro u v hn
    unfold Nb at hn ⊢
    rw [hsome, hsome] at hn
    simp only [Prod.mk.injEq, ne_eq] at hn
    rcases hn with ((⟨p, q⟩ | ⟨p, q⟩) | ⟨p, q, q'⟩) | ((⟨p, q⟩ | ⟨p, q⟩) | ⟨p, q, q'⟩)
    · exact .inl ⟨p, q⟩
    · exact .inr (.inl ⟨p, q⟩)
    · exact .inr (.inr ⟨.inl p, q, q'⟩)
    · exact .inr (.inl ⟨q, p⟩)
    · exact .inl ⟨q, p⟩
    · exact .inr (.inr ⟨.inr p, fun k => q' ⟨k.2, k.1⟩, fun k => q ⟨k.2, k.1⟩⟩)
  refine ⟨?_, ?_, ?_, ?_, ?_, ?_⟩
  · intro u v w hm
    rcases flip_inv ha hm with ⟨rfl, rfl, rfl⟩ | ⟨rfl, rfl, rfl⟩ | ⟨rfl, rfl, rfl⟩ | ⟨rfl, rfl, rfl⟩ | ⟨rfl, rfl, rfl⟩ | ⟨rfl, rfl, rfl⟩ | ⟨k, _⟩
    · exact ⟨ml.1, mr.2.2, ml.2.2⟩
    · exact ⟨mr.2.2, ml.2.2, ml.1⟩
    · exact ⟨ml.2.2, ml.1, mr.2.2⟩
    · exact ⟨ml.2.1, ml.2.2, mr.2.2⟩
    · exact ⟨ml.2.2, mr.2.2, ml.2.1⟩
    · exact ⟨mr.2.2, ml.2.1, ml.2.2⟩
    · exact h.mem _ _ _ k
  · intro u v w hm
    rcases flip_inv ha hm with ⟨rfl, rfl, rfl⟩ | ⟨rfl, rfl, rfl⟩ | ⟨rfl, rfl, rfl⟩ | ⟨rfl, rfl, rfl⟩ | ⟨rfl, rfl, rfl⟩ | ⟨rfl, rfl, rfl⟩ | ⟨k, _⟩
    · exact h3
    · rw [D_turn]; exact h3
    · rw [D_turn']; exact h3
    · exact h4
    · rw [D_turn]; exact h4
    · rw [D_turn']; exact h4
    · exact h.pos _ _ _ k
  · intro u v w hm
    have hA := flipM_eq (m := m) ha
    rcases flip_inv ha hm with ⟨rfl, rfl, rfl⟩ | ⟨rfl, rfl, rfl⟩ | ⟨rfl, rfl, rfl⟩ | ⟨rfl, rfl, rfl⟩ | ⟨rfl, rfl, rfl⟩ | ⟨rfl, rfl, rfl⟩ | ⟨k, k1, k2, k3, k4, k5, k6, k7, k8⟩
    · rw [hA]; obtain ⟨q1, q2, q3, q4, q5, q6⟩ := ha; grind
    · rw [hA]; obtain ⟨q1, q2, q3, q4, q5, q6⟩ := ha; grind
    · rw [hA]; obtain ⟨q1, q2, q3, q4, q5, q6⟩ := ha; grind
    · rw [hA]; obtain ⟨q1, q2, q3, q4, q5, q6⟩ := ha; grind
    · rw [hA]; obtain ⟨q1, q2, q3, q4, q5, q6⟩ := ha; grind
    · rw [hA]; obtain ⟨q1, q2, q3, q4, q5, q6⟩ := ha; grind
    · have kk := h.rot _ _ _ k
      rw [hA, if_neg, if_neg, if_neg, if_neg, if_neg, if_neg, if_neg, if_neg]
      · exact kk
      · intro e; rw [e, hr] at kk; injection kk with kk; injection e with e e'; exact k6 (by rw [← kk, e])
      · intro e; rw [e, hl] at kk; injection kk with kk; injection e with e e'; exact k3 (by rw [← kk, e])
      · intro e; rw [e, e4] at kk; injection kk with kk; injection e with e e'; exact k1 (by rw [← kk, e])
      · intro e; rw [e, n1] at kk; cases kk
      · intro e; rw [e, e1] at kk; injection kk with kk; injection e with e e'; exact k7 (by rw [← kk, e])
      · intro e; rw [e, e2] at kk; injection kk with kk; injection e with e e'; exact k4 (by rw [← kk, e])
      · intro e; rw [e, n2] at kk; cases kk
      · intro e; rw [e, e3] at kk; injection kk with kk; injection e with e e'; exact k8 (by rw [← kk, e])
  · intro u v w hm x hx g1 g2 g3
    rcases flip_inv ha hm with ⟨rfl, rfl, rfl⟩ | ⟨rfl, rfl, rfl⟩ | ⟨rfl, rfl, rfl⟩ | ⟨rfl, rfl, rfl⟩ | ⟨rfl, rfl, rfl⟩ | ⟨rfl, rfl, rfl⟩ | ⟨k, _⟩
    · exact E1 x hx g1 g2 g3
    · rcases E1 x hx g3 g1 g2 with e | e | e <;> simp [e]
    · rcases E1 x hx g2 g3 g1 with e | e | e <;> simp [e]
    · exact E2 x hx g1 g2 g3
    · rcases E2 x hx g3 g1 g2 with e | e | e <;> simp [e]
    · rcases E2 x hx g2 g3 g1 with e | e | e <;> simp [e]
    · exact h.empty _ _ _ k x hx g1 g2 g3
  · intro u v w hm hn x hx
    have hns : ∀ f, flipM m a b l r f = none → ¬((f = (l, r) ∨ f = (r, l)) ∨ ((m f).isSome = true ∧ f ≠ (a, b) ∧ f ≠ (b, a))) := by
      intro f hf hh
      have := (hsome f).2 hh
      rw [hf] at this; cases this
    have hv := hns _ hn
    obtain ⟨q1, q2, q3, q4, q5, q6⟩ := ha
    have hold : ∀ {u v z : Pt}, m (u, v) = some z → ¬(u = a ∧ v = b) → ¬(u = b ∧ v = a) → ¬(((v, u) = (l, r) ∨ (v, u) = (r, l)) ∨ ((m (v, u)).isSome = true ∧ (v, u) ≠ (a, b) ∧ (v, u) ≠ (b, a))) → 0 ≤ D u v x := by
      intro u v z k c1 c2 hv
      refine h.hull u v z k ?_ x hx
      cases e : m (v, u) with
      | none => rfl
      | some y =>
        exfalso
        apply hv
        refine .inr ⟨by rw [e]; rfl, ?_, ?_⟩
        · intro k; injection k with k k'; exact c2 ⟨k', k⟩
        · intro k; injection k with k k'; exact c1 ⟨k', k⟩
    rcases flip_inv ⟨q1, q2, q3, q4, q5, q6⟩ hm with ⟨rfl, rfl, rfl⟩ | ⟨rfl, rfl, rfl⟩ | ⟨rfl, rfl, rfl⟩ | ⟨rfl, rfl, rfl⟩ | ⟨rfl, rfl, rfl⟩ | ⟨rfl, rfl, rfl⟩ | ⟨k, k1, k2, k3, k4, k5, k6, k7, k8⟩
    · exact hold e3 (fun k => q4 k.2.symm) (fun k => q1 k.1) hv
    · exact absurd (.inl (.inl rfl)) hv
    · exact hold e2 (fun k => q2 k.1.symm) (fun k => q3 k.1.symm) hv
    · exact hold e1 (fun k => q1 k.1.symm) (fun k => q2 k.2.symm) hv
    · exact absurd (.inl (.inr rfl)) hv
    · exact hold e4 (fun k => q5 k.1.symm) (fun k => q4 k.1.symm) hv
    · exact hold k (fun c => k7 (by rw [c.1, c.2])) (fun c => k8 (by rw [c.1, c.2])) hv
  · intro u v w hm v' hn
    have hn' := hnb hn
    rcases flip_inv ha hm with ⟨rfl, rfl, rfl⟩ | ⟨rfl, rfl, rfl⟩ | ⟨rfl, rfl, rfl⟩ | ⟨rfl, rfl, rfl⟩ | ⟨rfl, rfl, rfl⟩ | ⟨rfl, rfl, rfl⟩ | ⟨k, k1, k2, k3, k4, k5, k6, k7, k8⟩
    · -- a: (a, r, l)
      rcases hn' with ⟨q, _⟩ | ⟨q, _⟩ | ⟨q, q1, _⟩
      · exact absurd q ha.al
      · exact absurd q ha.ar
      · exact flip_fan_a h hl hr q (fun k => q1 ⟨rfl, k⟩)
    · -- r: (r, l, a)
      rcases hn' with ⟨q, _⟩ | ⟨_, q⟩ | ⟨q, q1, _⟩
      · exact absurd q.symm ha.lr
      · rw [q, D_same2]; omega
      · exact (flip_fan_l1 h hr hl hc' q).2
    · -- l: (l, a, r)
      rcases hn' with ⟨_, q⟩ | ⟨q, _⟩ | ⟨q, q1, _⟩
      · rw [q, D_same2]; omega
      · exact absurd q ha.lr
      · exact (flip_fan_l1 h hl hr hc q).1
    · -- b: (b, l, r)
      rcases hn' with ⟨q, _⟩ | ⟨q, _⟩ | ⟨q, _, q1⟩
      · exact absurd q ha.bl
      · exact absurd q ha.br
      · exact flip_fan_a h hr hl q (fun k => q1 ⟨rfl, k⟩)
    · -- l: (l, r, b)
      rcases hn' with ⟨_, q⟩ | ⟨q, _⟩ | ⟨q, q1, _⟩
      · rw [q, D_same2]; omega
      · exact absurd q ha.lr
      · exact (flip_fan_l1 h hl hr hc q).2
    · -- r: (r, b, l)
      rcases hn' with ⟨q, _⟩ | ⟨_, q⟩ | ⟨q, q1, _⟩
      · exact absurd q.symm ha.lr
      · rw [q, D_same2]; omega
      · exact (flip_fan_l1 h hr hl hc' q).1
    · rcases hn' with ⟨q, q'⟩ | ⟨q, q'⟩ | ⟨q, _⟩
      · subst q; subst q'
        exact flip_fan_l2 h hl hr hc k (fun e => k3 (by rw [e]))
      · subst q; subst q'
        exact flip_fan_l2 h hr hl hc' k (fun e => k6 (by rw [e]))
      · exact h.fan _ _ _ k v' q
end

end Go.Proofs.YtgeoffpcmkofkaaGreat
/- Maps that are keyed by points and by directed sides: what their keys are. -/
namespace Go.Proofs.YtgeoffpcmkofkaaGreat
open Go.RowKit Go.Maps Fl
set_option maxRecDepth 100000

def ptV (p : Pt) : Value := .agg #[.int .i64 p.1, .int .i64 p.2]
def edV (e : Ed) : Value := .agg #[.int .i64 e.1.1, .int .i64 e.1.2, .int .i64 e.2.1, .int .i64 e.2.2]
def CdE (e : Ed) : Prop := CdP e.1 ∧ CdP e.2

theorem types_size : Tryz.prog.types.size = 167 := by kernel_rfl
theorem law36 : Keyed Tryz.prog 36 := Keyed.of_law (deep_law_laid (m := 5) (by kernel_rfl) (by decide) (by rw [types_size]; decide) (by kernel_rfl) (by kernel_rfl))
theorem law65 : Keyed Tryz.prog 65 := Keyed.of_law (deep_law_laid (m := 5) (by kernel_rfl) (by decide) (by rw [types_size]; decide) (by kernel_rfl) (by kernel_rfl))

theorem wfI {x : Int} (h : Cd x) : (Lit.int .i64 x).wf = true := by
  obtain ⟨h1, h2⟩ := h
  simp [Lit.wf, IntKind.min, IntKind.max, IntKind.signed, IntKind.bits]
  omega
theorem keyT36 : Tryz.prog.keyType 36 = true := by kernel_rfl
theorem keyT65 : Tryz.prog.keyType 65 = true := by kernel_rfl
theorem cells36 : Tryz.prog.cellsOf 36 = 2 := by kernel_rfl
theorem cells65 : Tryz.prog.cellsOf 65 = 4 := by kernel_rfl
theorem cells3 : Tryz.prog.cellsOf 3 = 1 := by kernel_rfl

theorem lits3 (d : Nat) {x : Int} (h : Cd x) : Tryz.prog.keyLits (d + 1) 3 [.int .i64 x] = some [.int .i64 x] := by
  simp [Program.keyLits, Tryz.underlying3, wfI h]
theorem lits36 (d : Nat) {p : Pt} (h : CdP p) : Tryz.prog.keyLits (d + 2) 36 [.int .i64 p.1, .int .i64 p.2] = some [.int .i64 p.1, .int .i64 p.2] := by
  unfold Program.keyLits
  rw [Tryz.underlying36]
  simp [cells36, cells3, lits3 d h.1, lits3 d h.2]
theorem lits65 (d : Nat) {e : Ed} (h : CdE e) : Tryz.prog.keyLits (d + 3) 65 [.int .i64 e.1.1, .int .i64 e.1.2, .int .i64 e.2.1, .int .i64 e.2.2] = some [.int .i64 e.1.1, .int .i64 e.1.2, .int .i64 e.2.1, .int .i64 e.2.2] := by
  unfold Program.keyLits
  rw [Tryz.underlying65]
  simp [cells36, cells65, List.range, List.range.loop, lits36 d h.1, lits36 d h.2]

def litP (p : Pt) : Lit := .string (keyBytes [.int .i64 p.1, .int .i64 p.2])
def litE (e : Ed) : Lit := .string (keyBytes [.int .i64 e.1.1, .int .i64 e.1.2, .int .i64 e.2.1, .int .i64 e.2.2])
theorem key36 {p : Pt} (h : CdP p) : keyOf Tryz.prog 36 (ptV p) = some (litP p) := by
  unfold keyOf ptV litP
  rw [Tryz.underlying36]
  simp [keyT36, Value.formed, Tryz.underlying36, cells36, Value.cells, lits36 166 h]
theorem key65 {e : Ed} (h : CdE e) : keyOf Tryz.prog 65 (edV e) = some (litE e) := by
  unfold keyOf edV litE
  rw [Tryz.underlying65]
  simp [keyT65, Value.formed, Tryz.underlying65, cells65, Value.cells, lits65 165 h]
theorem ptV_inj {p q : Pt} (h : ptV p = ptV q) : p = q := by
  simp [ptV] at h; exact pt_ext h.1 h.2
theorem edV_inj {e f : Ed} (h : edV e = edV f) : e = f := by
  simp [edV] at h; exact Prod.ext (pt_ext h.1 h.2.1) (pt_ext h.2.2.1 h.2.2.2)
theorem litP_inj {p q : Pt} (hp : CdP p) (hq : CdP q) (h : litP p = litP q) : p = q := ptV_inj (law36.inj (key36 hp) (by rw [h]; exact key36 hq))
theorem litE_inj {e f : Ed} (he : CdE e) (hf : CdE f) (h : litE e = litE f) : e = f := edV_inj (law65.inj (key65 he) (by rw [h]; exact key65 hf))
theorem litP_key {p : Pt} (h : CdP p) : WideAt.IsKeyLit (litP p) := law36.key (key36 h)
theorem litE_key {e : Ed} (h : CdE e) : WideAt.IsKeyLit (litE e) := law65.key (key65 h)

end Go.Proofs.YtgeoffpcmkofkaaGreat
/- A map from directed sides to points, as the program keeps it: looked up, written, struck out, gone through. -/
namespace Go.Proofs.YtgeoffpcmkofkaaGreat
open Go.RowKit Go.Maps Fl
set_option maxRecDepth 100000

def ptD (p : Pt) : DataW Unit := .agg [.lit (.int .i64 p.1), .lit (.int .i64 p.2)]
theorem ptD_inj {p q : Pt} (h : ptD p = ptD q) : p = q := by
  simp [ptD] at h; exact pt_ext h.1 h.2
open Classical in
noncomputable def ptElem (v : Value) : Option (DataW Unit × List MemPlace) := if h : ∃ p, v = ptV p then some (ptD h.choose, []) else none
theorem ptElem_mk (p : Pt) : ptElem (ptV p) = some (ptD p, []) := by
  have h : ∃ q, ptV p = ptV q := ⟨p, rfl⟩
  unfold ptElem
  rw [dif_pos h, ptV_inj h.choose_spec.symm]
theorem ptElem_inv {v : Value} {z : DataW Unit × List MemPlace} (h : ptElem v = some z) : ∃ p, v = ptV p ∧ z = (ptD p, []) := by
  unfold ptElem at h
  split at h
  · rename_i k; injection h with h; exact ⟨_, k.choose_spec, h.symm⟩
  · cases h

/-- What is looked up. -/
def atM (m : Ms) (e : Ed) : Pt := (m e).getD (0, 0)
structure Reads (D : DataW Unit) (m : Ms) : Prop where
  sup : ∀ e c, m e = some c → CdE e
  has : ∀ e, CdE e → Maps.has D (litE e) = (m e).isSome
  look : ∀ e c, m e = some c → ∀ z, D.atKey (litE e) z = ptD c
  key : ∀ k, Maps.has D k = true → ∃ e, CdE e ∧ k = litE e

theorem reads_empty : Reads (.map []) (fun _ => none) := ⟨fun _ _ h => (by cases h), fun _ _ => rfl, fun _ _ h => (by cases h), fun _ h => (by simp [Maps.has] at h)⟩

theorem Reads.put {D : DataW Unit} {m : Ms} (h : Reads D m) (hD : IsMap D) {e : Ed} (he : CdE e) (c : Pt) : Reads (D.put (litE e) (ptD c)) (setM m e c) := by
  have hk := litE_key he
  refine ⟨?_, ?_, ?_, ?_⟩
  · intro f d hf
    unfold setM at hf
    split at hf
    · rename_i k; rw [k]; exact he
    · exact h.sup f d hf
  · intro f hf
    by_cases k : f = e
    · subst k
      rw [Maps.has_put_same hD hk]; simp [setM]
    · rw [Maps.has_put_other (fun c => k (litE_inj hf he c)), h.has f hf]; simp [setM, k]
  · intro f d hf z
    by_cases k : f = e
    · subst k
      rw [Maps.atKey_put_same hD hk]
      simp [setM] at hf; rw [hf]
    · have hf' : m f = some d := by simpa [setM, k] using hf
      rw [Maps.atKey_put_other (fun c => k (litE_inj (h.sup f d hf') he c)), h.look f d hf']
  · intro k hk'
    by_cases q : k = litE e
    · exact ⟨e, he, q⟩
    · rw [Maps.has_put_other q] at hk'; exact h.key k hk'

theorem Reads.del {D : DataW Unit} {m : Ms} (h : Reads D m) {e : Ed} (he : CdE e) : Reads (D.del (litE e)) (delM m e) := by
  refine ⟨?_, ?_, ?_, ?_⟩
  · intro f d hf
    unfold delM at hf
    split at hf
    · cases hf
    · exact h.sup f d hf
  · intro f hf
    by_cases k : f = e
    · subst k
      rw [Maps.has_del_same]; simp [delM]
    · rw [Maps.has_del_other (fun c => k (litE_inj hf he c)), h.has f hf]; simp [delM, k]
  · intro f d hf z
    by_cases k : f = e
    · subst k; simp [delM] at hf
    · have hf' : m f = some d := by simpa [delM, k] using hf
      rw [Maps.atKey_del_other (fun c => k (litE_inj (h.sup f d hf') he c)), h.look f d hf']
  · intro k hk'
    by_cases q : k = litE e
    · subst q; rw [Maps.has_del_same] at hk'; cases hk'
    · rw [Maps.has_del_other q] at hk'; exact h.key k hk'

/-- The map lies in block b. -/
def MapE (w : World) (b n : Nat) (m : Ms) : Prop := ∃ D, w.ownsMap Tryz.prog 65 ptElem b n D ∧ Reads D m
theorem MapE.kept {w w' : World} {b n : Nat} {m : Ms} {row : Option Nat} (h : MapE w b n m) (hg : w.grownBy w' row) (hne : some b ≠ row) : MapE w' b n m := by
  obtain ⟨D, h1, h2⟩ := h
  exact ⟨D, h1.kept hg hne, h2⟩
theorem MapE.new {w w' : World} {b n : Nat} {m : Ms} (h : MapE w b n m) (hg : New w w') : MapE w' b n m := h.kept hg (by simp)
theorem MapE.lt {w : World} {b n : Nat} {m : Ms} (h : MapE w b n m) : b < w.heap.size := by obtain ⟨D, h1, _⟩ := h; exact h1.lt
theorem MapE.mono {w : World} {b n n' : Nat} {m : Ms} (h : MapE w b n m) (hn : n ≤ n') : MapE w b n' m := by obtain ⟨D, h1, h2⟩ := h; exact ⟨D, h1.mono hn, h2⟩
theorem mapE_made (w : World) : MapE (w.alloc (.map #[] 0)) w.heap.size 0 (fun _ => none) := ⟨_, World.ownsMap_made w _ _ _, reads_empty⟩

theorem zero36 (w : World) : (zeroValue 36).run Tryz.prog w = .ok (ptV (0, 0)) w := by kernel_rfl
theorem MapE.sup {w : World} {b n : Nat} {m : Ms} (h : MapE w b n m) {e : Ed} {c : Pt} (hm : m e = some c) : CdE e := by obtain ⟨D, _, h2⟩ := h; exact h2.sup e c hm

theorem MapE.look_ok {w : World} {b n : Nat} {m : Ms} (h : MapE w b n m) {e : Ed} (he : CdE e) :
    (Instr.lookup 51 (.map (some b)) (edV e) true).run Tryz.prog w = .ok (.tuple #[ptV (atM m e), .bool (m e).isSome]) w := by
  obtain ⟨D, h1, h2⟩ := h
  obtain ⟨v, ps, hr, hv⟩ := h1.look_ok law65 Tryz.underlying51 (zero36 w) (ptElem_mk (0, 0)) (key65 he)
  rw [hr, h2.has e he]
  obtain ⟨p, rfl, hp⟩ := ptElem_inv hv
  have : p = atM m e := by
    injection hp with hp _
    cases hm : m e with
    | none =>
      have : Maps.has D (litE e) = false := by rw [h2.has e he, hm]; rfl
      rw [Maps.atKey_of_not_has this] at hp
      rw [ptD_inj hp.symm]; simp [atM, hm]
    | some c => rw [h2.look e c hm] at hp; rw [ptD_inj hp.symm]; simp [atM, hm]
  rw [this]
theorem MapE.look {w : World} {b n : Nat} {m : Ms} (h : MapE w b n m) {e : Ed} (he : CdE e) :
    (Instr.lookup 51 (.map (some b)) (edV e) false).run Tryz.prog w = .ok (ptV (atM m e)) w := by
  obtain ⟨D, h1, h2⟩ := h
  obtain ⟨v, ps, hr, hv⟩ := h1.lookup law65 Tryz.underlying51 (zero36 w) (ptElem_mk (0, 0)) (key65 he)
  rw [hr]
  obtain ⟨p, rfl, hp⟩ := ptElem_inv hv
  have : p = atM m e := by
    injection hp with hp _
    cases hm : m e with
    | none =>
      have : Maps.has D (litE e) = false := by rw [h2.has e he, hm]; rfl
      rw [Maps.atKey_of_not_has this] at hp
      rw [ptD_inj hp.symm]; simp [atM, hm]
    | some c => rw [h2.look e c hm] at hp; rw [ptD_inj hp.symm]; simp [atM, hm]
  rw [this]
theorem MapE.store {w : World} {b n : Nat} {m : Ms} (h : MapE w b n m) (hn : n < maxLen) {e : Ed} (he : CdE e) (c : Pt) :
    ∃ w', (Instr.mapUpdate 51 (.map (some b)) (edV e) (ptV c)).run Tryz.prog w = .ok () w' ∧ MapE w' b (n + 1) (setM m e c) ∧ w.mapTurned w' b := by
  obtain ⟨D, h1, h2⟩ := h
  obtain ⟨w', hr, r1, r2⟩ := h1.store law65 Tryz.underlying51 hn (key65 he) (ptElem_mk c)
  exact ⟨w', hr, ⟨_, r1, h2.put h1.isMap he c⟩, r2⟩
theorem MapE.drop {w : World} {b n : Nat} {m : Ms} (h : MapE w b n m) {e : Ed} (he : CdE e) (ty : TypeId) :
    ∃ w', (Builtin.delete_ #[51, 65] ty #[.map (some b), edV e]).run Tryz.prog w = .ok (.tuple #[]) w' ∧ MapE w' b n (delM m e) ∧ w.mapTurned w' b := by
  obtain ⟨D, h1, h2⟩ := h
  obtain ⟨w', hr, r1, r2⟩ := h1.drop law65 Tryz.underlying51 (key65 he) ty
  exact ⟨w', hr, ⟨_, r1, h2.del he⟩, r2⟩

/-! ### At the operation -/
section
variable (w : World) {ops : Array Oper} {rest : List Oper} {o : Oper} {a : Act} {Q : Exit → Act → World → Prop}
theorem wpList_lookE_ok (hg : o.guard = none) (x y : Operand) (hop : o.op = Op.lookup 51 x y true) (b n : Nat) (m : Ms) (hm : a.eval x = .map (some b)) (h : MapE w b n m) (e : Ed) (hy : a.eval y = edV e) (he : CdE e)
    (hK : wpList Tryz.prog ops Q rest (a.put o.dst (.tuple #[.agg #[.int .i64 (atM m e).1, .int .i64 (atM m e).2], .bool (m e).isSome])) w) : wpList Tryz.prog ops Q (o :: rest) a w := by
  refine wpList_plain hg fun K' hK' => ?_
  unfold Oper.wp
  simp [execOp, hop, hm, hy, h.look_ok he, Result.andThen]
  exact hK' _ _ hK
theorem wpList_lookE (hg : o.guard = none) (x y : Operand) (hop : o.op = Op.lookup 51 x y false) (b n : Nat) (m : Ms) (hm : a.eval x = .map (some b)) (h : MapE w b n m) (e : Ed) (hy : a.eval y = edV e) (he : CdE e)
    (hK : wpList Tryz.prog ops Q rest (a.put o.dst (.agg #[.int .i64 (atM m e).1, .int .i64 (atM m e).2])) w) : wpList Tryz.prog ops Q (o :: rest) a w := by
  refine wpList_plain hg fun K' hK' => ?_
  unfold Oper.wp
  simp [execOp, hop, hm, hy, h.look he, Result.andThen]
  exact hK' _ _ hK
theorem wpList_storeE (hg : o.guard = none) (x y z : Operand) (hop : o.op = Op.mapUpdate 51 x y z) (b n : Nat) (m : Ms) (hm : a.eval x = .map (some b)) (h : MapE w b n m) (hn : n < maxLen) (e : Ed) (c : Pt) (hy : a.eval y = edV e) (hz : a.eval z = ptV c) (he : CdE e)
    (hK : ∀ w', MapE w' b (n + 1) (setM m e c) → w.mapTurned w' b → wpList Tryz.prog ops Q rest (a.put o.dst undef) w') : wpList Tryz.prog ops Q (o :: rest) a w := by
  refine wpList_plain hg fun K' hK' => ?_
  obtain ⟨w', hr, r1, r2⟩ := h.store hn he c
  unfold Oper.wp
  simp [execOp, hop, hm, hy, hz, hr, Result.andThen]
  exact hK' _ _ (hK w' r1 r2)
theorem wpList_dropE (hg : o.guard = none) (x y : Operand) (hop : o.op = Op.call { callee := Callee.builtin Builtin.delete, args := #[x, y], argTypes := #[51, 65] }) (b n : Nat) (m : Ms) (hm : a.eval x = .map (some b)) (h : MapE w b n m) (e : Ed) (hy : a.eval y = edV e) (he : CdE e)
    (hK : ∀ w', MapE w' b n (delM m e) → w.mapTurned w' b → wpList Tryz.prog ops Q rest (a.put o.dst (.tuple #[])) w') : wpList Tryz.prog ops Q (o :: rest) a w := by
  refine wpList_plain hg fun K' hK' => ?_
  obtain ⟨w', hr, r1, r2⟩ := h.drop he o.type
  unfold Oper.wp
  simp [execOp, hop, resolve, invoke, builtin, hm, hy, hr, Result.andThen]
  exact hK' _ _ (hK w' r1 r2)
end

/-! ### Gone through -/
/-- The map in block b is being gone through by the walker in block r; these sides have come. -/
def RangeE (w : World) (b r n : Nat) (m : Ms) (vis : List Ed) : Prop :=
  ∃ D left cnt, w.ranges Tryz.prog 65 ptElem b r n D left cnt ∧ Reads D m ∧ vis.Nodup ∧ (∀ e ∈ vis, (m e).isSome = true) ∧ ∀ e, CdE e → (left (litE e) = true ↔ (m e).isSome = true ∧ e ∉ vis)
theorem RangeE.owns {w : World} {b r n : Nat} {m : Ms} {vis : List Ed} (h : RangeE w b r n m vis) : MapE w b n m := by
  obtain ⟨D, left, cnt, h1, h2, _⟩ := h
  exact ⟨D, h1.owns, h2⟩
theorem RangeE.kept {w w' : World} {b r n : Nat} {m : Ms} {vis : List Ed} {row : Option Nat} (h : RangeE w b r n m vis) (hg : w.grownBy w' row) (hb : some b ≠ row) (hr : some r ≠ row) : RangeE w' b r n m vis ∧ w'.rangeLeft b r = w.rangeLeft b r := by
  obtain ⟨D, left, cnt, h1, h2⟩ := h
  have k := h1.kept hg hb hr
  exact ⟨⟨D, left, cnt, k, h2⟩, by rw [k.left_eq, h1.left_eq]⟩
theorem RangeE.nodup {w : World} {b r n : Nat} {m : Ms} {vis : List Ed} (h : RangeE w b r n m vis) : vis.Nodup ∧ ∀ e ∈ vis, (m e).isSome = true := by
  obtain ⟨D, left, cnt, h1, h2, h3, h4, _⟩ := h
  exact ⟨h3, h4⟩

theorem MapE.range {w : World} {b n : Nat} {m : Ms} (h : MapE w b n m) : ∃ w', (Instr.range 51 (.map (some b))).run Tryz.prog w = .ok (.pointer (some ⟨w.heap.size, 0, none⟩)) w' ∧ RangeE w' b w.heap.size n m [] ∧ New w w' ∧ w'.heap.size = w.heap.size + 1 := by
  obtain ⟨D, h1, h2⟩ := h
  obtain ⟨w', hr, r1, r2, r3⟩ := h1.range law65 Tryz.underlying51
  refine ⟨w', hr, ⟨D, _, _, r1, h2, List.nodup_nil, (fun _ h => by cases h), fun e he => ?_⟩, r2, r3⟩
  rw [h2.has e he]; simp

/-- A step: nothing is left, or one that has not come yet. -/
theorem RangeE.next {w : World} {b r n : Nat} {m : Ms} {vis : List Ed} (h : RangeE w b r n m vis) (ty : TypeId) :
    ((∀ e, (m e).isSome = true → e ∈ vis) ∧ (Instr.next (.pointer (some ⟨r, 0, none⟩)) false ty).run Tryz.prog w = .ok (.tuple #[.bool false]) w) ∨
    ∃ e c w', m e = some c ∧ CdE e ∧ e ∉ vis ∧ (Instr.next (.pointer (some ⟨r, 0, none⟩)) false ty).run Tryz.prog w = .ok (.tuple #[.bool true, edV e, ptV c]) w' ∧ RangeE w' b r n m (vis ++ [e]) ∧ w'.rangeLeft b r < w.rangeLeft b r ∧
      w.grownBy w' (some r) ∧ w'.heap.size = w.heap.size ∧ (Instr.entry (.pointer (some ⟨r, 0, none⟩))).run Tryz.prog w' = .ok (.tuple #[edV e, ptV c]) w' := by
  obtain ⟨D, left, cnt, h1, h2, h3, h4, h5⟩ := h
  rcases h1.next law65 ty with ⟨_, hl, hr⟩ | ⟨key, v, kl, y, w', cnt', hkey, hlk, hv, hat, hr, hrg, hlt, hgr, hsz, hen⟩
  · left
    refine ⟨fun e he => ?_, hr⟩
    obtain ⟨c, hc⟩ := Option.isSome_iff_exists.1 he
    rcases Classical.em (e ∈ vis) with k | k
    · exact k
    · have := (h5 e (h2.sup e c hc)).2 ⟨he, k⟩
      rw [hl] at this; cases this
  · right
    obtain ⟨p, rfl, rfl⟩ := ptElem_inv hv
    have hD : Maps.has D kl = true := Maps.has_true_of_atKey hat
    obtain ⟨e, he, rfl⟩ := h2.key kl hD
    have hk : key = edV e := law65.inj hkey (key65 he)
    subst hk
    have hin := (h5 e he).1 hlk
    obtain ⟨c, hc⟩ := Option.isSome_iff_exists.1 hin.1
    have hcp : c = p := by
      have := hat (.lit .nil)
      rw [h2.look e c hc] at this
      exact ptD_inj this
    subst hcp
    refine ⟨e, c, w', hc, he, hin.2, hr, ⟨D, _, cnt', hrg, h2, ?_, ?_, ?_⟩, by rw [hrg.left_eq, h1.left_eq]; exact hlt, hgr, hsz, hen⟩
    · rw [List.nodup_append]
      exact ⟨h3, by simp, fun a ha b hb => by simp at hb; subst hb; exact fun c => hin.2 (c ▸ ha)⟩
    · intro f hf
      rcases List.mem_append.1 hf with hf | hf
      · exact h4 f hf
      · simp at hf; subst hf; exact hin.1
    · intro f hf
      simp only [Bool.and_eq_true, Bool.not_eq_true', List.mem_append, List.mem_singleton, not_or]
      rw [h5 f hf]
      have : (litE f).sameKey (litE e) = false ↔ f ≠ e := by
        constructor
        · intro k c; rw [c, WideAt.sameKey_self (litE_key he)] at k; cases k
        · intro k; exact Maps.sameKey_ne (fun c => k (litE_inj hf he c))
      rw [this]
      constructor
      · rintro ⟨⟨a, b⟩, c⟩; exact ⟨a, b, c⟩
      · rintro ⟨a, b, c⟩; exact ⟨⟨a, b⟩, c⟩

section
variable (w : World) {ops : Array Oper} {rest : List Oper} {o : Oper} {a : Act} {Q : Exit → Act → World → Prop}
theorem wpList_rangeE (hg : o.guard = none) (x : Operand) (hop : o.op = Op.range 51 x) (b n : Nat) (m : Ms) (hm : a.eval x = .map (some b)) (h : MapE w b n m)
    (hK : ∀ w', RangeE w' b w.heap.size n m [] → New w w' → w'.heap.size = w.heap.size + 1 → wpList Tryz.prog ops Q rest (a.put o.dst (.pointer (some ⟨w.heap.size, 0, none⟩))) w') : wpList Tryz.prog ops Q (o :: rest) a w := by
  refine wpList_plain hg fun K' hK' => ?_
  obtain ⟨w', hr, r1, r2, r3⟩ := h.range
  unfold Oper.wp
  simp [execOp, hop, hm, hr, Result.andThen]
  exact hK' _ _ (hK w' r1 r2 r3)
theorem wpList_nextE (hg : o.guard = none) (it : Operand) (hop : o.op = Op.next it false) (b r n : Nat) (m : Ms) (vis : List Ed) (hit : a.eval it = .pointer (some ⟨r, 0, none⟩)) (h : RangeE w b r n m vis)
    (hDone : (∀ e, (m e).isSome = true → e ∈ vis) → wpList Tryz.prog ops Q rest (a.put o.dst (.tuple #[.bool false])) w)
    (hMore : ∀ (e : Ed) (c : Pt) (w' : World), m e = some c → CdE e → e ∉ vis → RangeE w' b r n m (vis ++ [e]) → w'.rangeLeft b r < w.rangeLeft b r → w.grownBy w' (some r) → w'.heap.size = w.heap.size → (Instr.entry (.pointer (some ⟨r, 0, none⟩))).run Tryz.prog w' = .ok (.tuple #[.agg #[.int .i64 e.1.1, .int .i64 e.1.2, .int .i64 e.2.1, .int .i64 e.2.2], .agg #[.int .i64 c.1, .int .i64 c.2]]) w' →
      wpList Tryz.prog ops Q rest (a.put o.dst (.tuple #[.bool true, .agg #[.int .i64 e.1.1, .int .i64 e.1.2, .int .i64 e.2.1, .int .i64 e.2.2], .agg #[.int .i64 c.1, .int .i64 c.2]])) w') : wpList Tryz.prog ops Q (o :: rest) a w := by
  refine wpList_plain hg fun K' hK' => ?_
  unfold Oper.wp
  rcases h.next o.type with ⟨h0, hr⟩ | ⟨e, c, w', h1, h2, h3, hr, h4, h5, h6, h7, h8⟩
  · simp [execOp, hop, hit, hr, Result.andThen]
    exact hK' _ _ (hDone h0)
  · simp [execOp, hop, hit, hr, Result.andThen]
    exact hK' _ _ (hMore e c w' h1 h2 h3 h4 h5 h6 h7 h8)
end

end Go.Proofs.YtgeoffpcmkofkaaGreat
/- A map from points to numbers, as the program keeps it. -/
namespace Go.Proofs.YtgeoffpcmkofkaaGreat
open Go.RowKit Go.Maps Fl
set_option maxRecDepth 100000

def inD (x : Int) : DataW Unit := .lit (.int .i64 x)
theorem inD_inj {p q : Int} (h : inD p = inD q) : p = q := by
  simpa [inD] using h
open Classical in
noncomputable def inElem (v : Value) : Option (DataW Unit × List MemPlace) := if h : ∃ p, v = .int .i64 p then some (inD h.choose, []) else none
theorem inElem_mk (p : Int) : inElem (.int .i64 p) = some (inD p, []) := by
  have h : ∃ q, Value.int .i64 p = .int .i64 q := ⟨p, rfl⟩
  unfold inElem
  rw [dif_pos h]
  have e : Value.int .i64 p = .int .i64 h.choose := h.choose_spec
  injection e with _ e
  rw [← e]
theorem inElem_inv {v : Value} {z : DataW Unit × List MemPlace} (h : inElem v = some z) : ∃ p, v = .int .i64 p ∧ z = (inD p, []) := by
  unfold inElem at h
  split at h
  · rename_i k; injection h with h; exact ⟨_, k.choose_spec, h.symm⟩
  · cases h

/-- Numbers of points. -/
abbrev Ns := Pt → Option Int
def setN (m : Ns) (e : Pt) (c : Int) : Ns := fun f => if f = e then some c else m f
/-- What is looked up. -/
def atN (m : Ns) (e : Pt) : Int := (m e).getD 0
structure ReadsI (D : DataW Unit) (m : Ns) : Prop where
  sup : ∀ e c, m e = some c → CdP e
  has : ∀ e, CdP e → Maps.has D (litP e) = (m e).isSome
  look : ∀ e c, m e = some c → ∀ z, D.atKey (litP e) z = inD c
  key : ∀ k, Maps.has D k = true → ∃ e, CdP e ∧ k = litP e

theorem readsI_empty : ReadsI (.map []) (fun _ => none) := ⟨fun _ _ h => (by cases h), fun _ _ => rfl, fun _ _ h => (by cases h), fun _ h => (by simp [Maps.has] at h)⟩

theorem ReadsI.put {D : DataW Unit} {m : Ns} (h : ReadsI D m) (hD : IsMap D) {e : Pt} (he : CdP e) (c : Int) : ReadsI (D.put (litP e) (inD c)) (setN m e c) := by
  have hk := litP_key he
  refine ⟨?_, ?_, ?_, ?_⟩
  · intro f d hf
    unfold setN at hf
    split at hf
    · rename_i k; rw [k]; exact he
    · exact h.sup f d hf
  · intro f hf
    by_cases k : f = e
    · subst k
      rw [Maps.has_put_same hD hk]; simp [setN]
    · rw [Maps.has_put_other (fun c => k (litP_inj hf he c)), h.has f hf]; simp [setN, k]
  · intro f d hf z
    by_cases k : f = e
    · subst k
      rw [Maps.atKey_put_same hD hk]
      simp [setN] at hf; rw [hf]
    · have hf' : m f = some d := by simpa [setN, k] using hf
      rw [Maps.atKey_put_other (fun c => k (litP_inj (h.sup f d hf') he c)), h.look f d hf']
  · intro k hk'
    by_cases q : k = litP e
    · exact ⟨e, he, q⟩
    · rw [Maps.has_put_other q] at hk'; exact h.key k hk'

/-- The map lies in block b. -/
def MapI (w : World) (b n : Nat) (m : Ns) : Prop := ∃ D, w.ownsMap Tryz.prog 36 inElem b n D ∧ ReadsI D m
theorem MapI.kept {w w' : World} {b n : Nat} {m : Ns} {row : Option Nat} (h : MapI w b n m) (hg : w.grownBy w' row) (hne : some b ≠ row) : MapI w' b n m := by
  obtain ⟨D, h1, h2⟩ := h
  exact ⟨D, h1.kept hg hne, h2⟩
theorem MapI.new {w w' : World} {b n : Nat} {m : Ns} (h : MapI w b n m) (hg : New w w') : MapI w' b n m := h.kept hg (by simp)
theorem MapI.lt {w : World} {b n : Nat} {m : Ns} (h : MapI w b n m) : b < w.heap.size := by obtain ⟨D, h1, _⟩ := h; exact h1.lt
theorem MapI.mono {w : World} {b n n' : Nat} {m : Ns} (h : MapI w b n m) (hn : n ≤ n') : MapI w b n' m := by obtain ⟨D, h1, h2⟩ := h; exact ⟨D, h1.mono hn, h2⟩
theorem mapI_made (w : World) : MapI (w.alloc (.map #[] 0)) w.heap.size 0 (fun _ => none) := ⟨_, World.ownsMap_made w _ _ _, readsI_empty⟩

theorem zero3 (w : World) : (zeroValue 3).run Tryz.prog w = .ok (.int .i64 0) w := by kernel_rfl
theorem MapI.sup {w : World} {b n : Nat} {m : Ns} (h : MapI w b n m) {e : Pt} {c : Int} (hm : m e = some c) : CdP e := by obtain ⟨D, _, h2⟩ := h; exact h2.sup e c hm

theorem MapI.look_ok {w : World} {b n : Nat} {m : Ns} (h : MapI w b n m) {e : Pt} (he : CdP e) :
    (Instr.lookup 54 (.map (some b)) (ptV e) true).run Tryz.prog w = .ok (.tuple #[.int .i64 (atN m e), .bool (m e).isSome]) w := by
  obtain ⟨D, h1, h2⟩ := h
  obtain ⟨v, ps, hr, hv⟩ := h1.look_ok law36 Tryz.underlying54 (zero3 w) (inElem_mk 0) (key36 he)
  rw [hr, h2.has e he]
  obtain ⟨p, rfl, hp⟩ := inElem_inv hv
  have : p = atN m e := by
    injection hp with hp _
    cases hm : m e with
    | none =>
      have : Maps.has D (litP e) = false := by rw [h2.has e he, hm]; rfl
      rw [Maps.atKey_of_not_has this] at hp
      rw [inD_inj hp.symm]; simp [atN, hm]
    | some c => rw [h2.look e c hm] at hp; rw [inD_inj hp.symm]; simp [atN, hm]
  rw [this]
theorem MapI.look {w : World} {b n : Nat} {m : Ns} (h : MapI w b n m) {e : Pt} (he : CdP e) :
    (Instr.lookup 54 (.map (some b)) (ptV e) false).run Tryz.prog w = .ok (.int .i64 (atN m e)) w := by
  obtain ⟨D, h1, h2⟩ := h
  obtain ⟨v, ps, hr, hv⟩ := h1.lookup law36 Tryz.underlying54 (zero3 w) (inElem_mk 0) (key36 he)
  rw [hr]
  obtain ⟨p, rfl, hp⟩ := inElem_inv hv
  have : p = atN m e := by
    injection hp with hp _
    cases hm : m e with
    | none =>
      have : Maps.has D (litP e) = false := by rw [h2.has e he, hm]; rfl
      rw [Maps.atKey_of_not_has this] at hp
      rw [inD_inj hp.symm]; simp [atN, hm]
    | some c => rw [h2.look e c hm] at hp; rw [inD_inj hp.symm]; simp [atN, hm]
  rw [this]
theorem MapI.store {w : World} {b n : Nat} {m : Ns} (h : MapI w b n m) (hn : n < maxLen) {e : Pt} (he : CdP e) (c : Int) :
    ∃ w', (Instr.mapUpdate 54 (.map (some b)) (ptV e) (.int .i64 c)).run Tryz.prog w = .ok () w' ∧ MapI w' b (n + 1) (setN m e c) ∧ w.mapTurned w' b := by
  obtain ⟨D, h1, h2⟩ := h
  obtain ⟨w', hr, r1, r2⟩ := h1.store law36 Tryz.underlying54 hn (key36 he) (inElem_mk c)
  exact ⟨w', hr, ⟨_, r1, h2.put h1.isMap he c⟩, r2⟩
/-! ### At the operation -/
section
variable (w : World) {ops : Array Oper} {rest : List Oper} {o : Oper} {a : Act} {Q : Exit → Act → World → Prop}
theorem wpList_lookI_ok (hg : o.guard = none) (x y : Operand) (hop : o.op = Op.lookup 54 x y true) (b n : Nat) (m : Ns) (hm : a.eval x = .map (some b)) (h : MapI w b n m) (e : Pt) (hy : a.eval y = ptV e) (he : CdP e)
    (hK : wpList Tryz.prog ops Q rest (a.put o.dst (.tuple #[.int .i64 (atN m e), .bool (m e).isSome])) w) : wpList Tryz.prog ops Q (o :: rest) a w := by
  refine wpList_plain hg fun K' hK' => ?_
  unfold Oper.wp
  simp [execOp, hop, hm, hy, h.look_ok he, Result.andThen]
  exact hK' _ _ hK
theorem wpList_lookI (hg : o.guard = none) (x y : Operand) (hop : o.op = Op.lookup 54 x y false) (b n : Nat) (m : Ns) (hm : a.eval x = .map (some b)) (h : MapI w b n m) (e : Pt) (hy : a.eval y = ptV e) (he : CdP e)
    (hK : wpList Tryz.prog ops Q rest (a.put o.dst (.int .i64 (atN m e))) w) : wpList Tryz.prog ops Q (o :: rest) a w := by
  refine wpList_plain hg fun K' hK' => ?_
  unfold Oper.wp
  simp [execOp, hop, hm, hy, h.look he, Result.andThen]
  exact hK' _ _ hK
theorem wpList_storeI (hg : o.guard = none) (x y z : Operand) (hop : o.op = Op.mapUpdate 54 x y z) (b n : Nat) (m : Ns) (hm : a.eval x = .map (some b)) (h : MapI w b n m) (hn : n < maxLen) (e : Pt) (c : Int) (hy : a.eval y = ptV e) (hz : a.eval z = .int .i64 c) (he : CdP e)
    (hK : ∀ w', MapI w' b (n + 1) (setN m e c) → w.mapTurned w' b → wpList Tryz.prog ops Q rest (a.put o.dst undef) w') : wpList Tryz.prog ops Q (o :: rest) a w := by
  refine wpList_plain hg fun K' hK' => ?_
  obtain ⟨w', hr, r1, r2⟩ := h.store hn he c
  unfold Oper.wp
  simp [execOp, hop, hm, hy, hz, hr, Result.andThen]
  exact hK' _ _ (hK w' r1 r2)
end


end Go.Proofs.YtgeoffpcmkofkaaGreat
/- The walks of package mesh: 'reverse', 'add'. -/
namespace Go.Proofs.YtgeoffpcmkofkaaGreat
open Go.RowKit Go.Maps Fl
set_option maxRecDepth 100000
attribute [local go_sem ↓] Go.wp_at_zero Go.wp_at_succ

theorem turned_cell {w w' : World} {b k off : Nat} (h : w.mapTurned w' b) (hk : k ≠ b) : w'.cell? ⟨k, off, none⟩ = w.cell? ⟨k, off, none⟩ := by
  obtain ⟨es, clock, es', clock', hb, rfl⟩ := h
  exact World.cell?_of_block (a := ⟨k, off, none⟩) (ChangeMaps.heap_setBlock_other hb _ hk)
/-- Three boxes, two cells each. -/
structure Box3 (w : World) (k : Nat) (p q r : Pt) : Prop where
  p1 : w.cell? ⟨k, 0, none⟩ = some (.int .i64 p.1)
  p2 : w.cell? ⟨k, 1, none⟩ = some (.int .i64 p.2)
  q1 : w.cell? ⟨k + 1, 0, none⟩ = some (.int .i64 q.1)
  q2 : w.cell? ⟨k + 1, 1, none⟩ = some (.int .i64 q.2)
  r1 : w.cell? ⟨k + 1 + 1, 0, none⟩ = some (.int .i64 r.1)
  r2 : w.cell? ⟨k + 1 + 1, 1, none⟩ = some (.int .i64 r.2)
theorem Box3.turned {w w' : World} {b k : Nat} {p q r : Pt} (h : Box3 w k p q r) (t : w.mapTurned w' b) (hb : b < k) : Box3 w' k p q r :=
  ⟨(turned_cell t (by omega)).trans h.p1, (turned_cell t (by omega)).trans h.p2, (turned_cell t (by omega)).trans h.q1, (turned_cell t (by omega)).trans h.q2, (turned_cell t (by omega)).trans h.r1, (turned_cell t (by omega)).trans h.r2⟩
theorem box3_mk (w : World) (p q r : Pt) : Box3 (((w.alloc (.cells #[.int .i64 p.1, .int .i64 p.2] 36)).alloc (.cells #[.int .i64 q.1, .int .i64 q.2] 36)).alloc (.cells #[.int .i64 r.1, .int .i64 r.2] 36)) w.heap.size p q r := by
  constructor <;> go_simp

set_option maxHeartbeats 800000 in
theorem reverse_any (ax ay bx by' : Int) (w : World) : Calls Tryz.prog 63 #[.agg #[.int .i64 ax, .int .i64 ay, .int .i64 bx, .int .i64 by']] w fun e w' => e = .returned (.agg #[.int .i64 bx, .int .i64 by', .int .i64 ax, .int .i64 ay]) ∧ Hid (New w w') := by
  go_enter Tryz.func63, Tryz.ntmps63
  go_wp2_with fail
  refine bodyPost_ret (v := .agg #[.int .i64 bx, .int .i64 by', .int .i64 ax, .int .i64 ay]) (by simp [results, Tryz.results63, go_sem]) rfl ?_
  exact ⟨rfl, ((New.refl w).alloc' _).alloc' _⟩

set_option maxHeartbeats 1600000 in
theorem add_any (b n : Nat) (m : Ms) (p q r : Pt) (w : World) (h : MapE w b n m) (hn : n + 3 < maxLen) (hp : CdP p) (hq : CdP q) (hr : CdP r) :
    Calls Tryz.prog 39 #[.map (some b), .agg #[.int .i64 p.1, .int .i64 p.2], .agg #[.int .i64 q.1, .int .i64 q.2], .agg #[.int .i64 r.1, .int .i64 r.2]] w fun e w' =>
      e = .returned (.tuple #[]) ∧ Hid (MapE w' b (n + 3) (addM m p q r) ∧ w.grownBy w' (some b)) := by
  have H : Hid (MapE w b n m) := h
  have hb := h.lt
  clear h
  go_enter Tryz.func39, Tryz.ntmps39
  go_wp2_with (first
    | (at_mapUpdate; refine wpList_storeE _ rfl _ _ _ rfl b n m rfl (H.out.new (((New.refl w).alloc' _).alloc' _ |>.alloc' _)) (by omega) (p, q) r rfl rfl ⟨hp, hq⟩ ?_
       intro w1 h1 t1
       have B : Hid (Box3 w1 w.heap.size p q r) := (box3_mk w p q r).turned t1 hb
       have H1 : Hid (MapE w1 b (n + 1) (setM m (p, q) r) ∧ w.grownBy w1 (some b)) := ⟨h1, ((((New.refl w).alloc' _).alloc' _ |>.alloc' _).but (some b)).trans t1.grown⟩
       clear h1 t1 H
       obtain ⟨x1, x2, x3, x4, x5, x6⟩ := B.out)
    | (at_mapUpdate; refine wpList_storeE _ rfl _ _ _ rfl b (n + 1) _ rfl H1.out.1 (by omega) (q, r) p rfl rfl ⟨hq, hr⟩ ?_
       intro w2 h2 t2
       have B2 : Hid (Box3 w2 w.heap.size p q r) := B.out.turned t2 hb
       have H2 : Hid (MapE w2 b (n + 2) (setM (setM m (p, q) r) (q, r) p) ∧ w.grownBy w2 (some b)) := ⟨h2, H1.out.2.trans t2.grown⟩
       clear h2 t2 H1 B x1 x2 x3 x4 x5 x6
       obtain ⟨x1, x2, x3, x4, x5, x6⟩ := B2.out)
    | (at_mapUpdate; refine wpList_storeE _ rfl _ _ _ rfl b (n + 2) _ rfl H2.out.1 (by omega) (r, p) q rfl rfl ⟨hr, hp⟩ ?_
       intro w3 h3 t3
       have H3 : Hid (MapE w3 b (n + 3) (addM m p q r) ∧ w.grownBy w3 (some b)) := ⟨h3, H2.out.2.trans t3.grown⟩
       clear h3 t3 H2 B2 x1 x2 x3 x4 x5 x6)
    | go_in)
  go_end0
  exact ⟨rfl, H3⟩

end Go.Proofs.YtgeoffpcmkofkaaGreat
