/- Td; Qd; Ra; Rb; Rc; Re: texts laid into one. -/
import Derived.Test.YtgeoffpcmkofkaaGreatQaj
import Derived.Shelf.SlSortCmp.NoneTotal
import Derived.Test.YtgeoffpcmkofkaaGreatQag
import Derived.Test.YtgeoffpcmkofkaaGreatQac
/- The first triangles: points in a line, and one beside it. -/
namespace Go.Proofs.YtgeoffpcmkofkaaGreat

/-! ### The first triangles: points in a line, and one beside it -/
/-- In their order, each ahead of the next. -/
def Rising (l : List Pt) : Prop := ∀ (i j : Nat) (x y : Pt), l[i]? = some x → l[j]? = some y → i < j → K x < K y
def Nx (l : List Pt) (x y : Pt) : Prop := ∃ i : Nat, l[i]? = some x ∧ l[i + 1]? = some y

section
variable {l : List Pt}
theorem Rising.idx (h : Rising l) {i j : Nat} {x y : Pt} (hi : l[i]? = some x) (hj : l[j]? = some y) : (K x < K y ↔ i < j) ∧ (K x = K y ↔ i = j) := by
  rcases Nat.lt_trichotomy i j with k | k | k
  · have := h i j x y hi hj k; omega
  · subst k
    rw [hi] at hj; injection hj with hj; subst hj; omega
  · have := h j i y x hj hi k; omega
theorem Rising.inj (h : Rising l) {x y : Pt} (hx : x ∈ l) (hy : y ∈ l) (hk : K x = K y) : x = y := by
  obtain ⟨i, hi⟩ := List.mem_iff_getElem?.1 hx
  obtain ⟨j, hj⟩ := List.mem_iff_getElem?.1 hy
  have := (h.idx hi hj).2.1 hk
  subst this
  rw [hi] at hj; injection hj
theorem Rising.nodup (h : Rising l) : l.Nodup := by
  rw [List.nodup_iff_pairwise_ne, List.pairwise_iff_getElem]
  intro i j hi hj hij e
  have := h i j l[i] l[j] (List.getElem?_eq_getElem hi) (List.getElem?_eq_getElem hj) hij
  rw [e] at this; omega
theorem Rising.take (h : Rising l) (n : Nat) : Rising (l.take n) := by
  intro i j x y hi hj hij
  rw [List.getElem?_take] at hi hj
  split at hi
  · split at hj
    · exact h i j x y hi hj hij
    · cases hj
  · cases hi
theorem nx_mem {x y : Pt} (h : Nx l x y) : x ∈ l ∧ y ∈ l := by
  obtain ⟨i, h1, h2⟩ := h
  exact ⟨List.mem_of_getElem? h1, List.mem_of_getElem? h2⟩
theorem Rising.nx_lt (h : Rising l) {x y : Pt} (hn : Nx l x y) : K x < K y := by
  obtain ⟨i, h1, h2⟩ := hn
  exact h i (i + 1) x y h1 h2 (by omega)
theorem Rising.nx_gap (h : Rising l) {x y z : Pt} (hn : Nx l x y) (hz : z ∈ l) : K z ≤ K x ∨ K y ≤ K z := by
  obtain ⟨i, h1, h2⟩ := hn
  obtain ⟨j, hj⟩ := List.mem_iff_getElem?.1 hz
  have a := h.idx hj h1
  have b := h.idx hj h2
  omega
theorem Rising.nx_fun (h : Rising l) {x y y' : Pt} (hn : Nx l x y) (hn' : Nx l x y') : y = y' := by
  obtain ⟨i, h1, h2⟩ := hn
  obtain ⟨j, h3, h4⟩ := hn'
  have := (h.idx h1 h3).2.1 rfl
  subst this
  rw [h2] at h4; injection h4
theorem Rising.nx_inj (h : Rising l) {x x' y : Pt} (hn : Nx l x y) (hn' : Nx l x' y) : x = x' := by
  obtain ⟨i, h1, h2⟩ := hn
  obtain ⟨j, h3, h4⟩ := hn'
  have := (h.idx h2 h4).2.1 rfl
  have : i = j := by omega
  subst this
  rw [h1] at h3; injection h3
theorem Rising.nx_ex (h : Rising l) {x z : Pt} (hx : x ∈ l) (hz : z ∈ l) (hk : K x < K z) : (∃ y, Nx l x y) ∧ ∃ y, Nx l y z := by
  obtain ⟨i, hi⟩ := List.mem_iff_getElem?.1 hx
  obtain ⟨j, hj⟩ := List.mem_iff_getElem?.1 hz
  have := (h.idx hi hj).1.1 hk
  have lj := (List.getElem?_eq_some_iff.1 hj).1
  constructor
  · exact ⟨l[i + 1]'(by omega), i, hi, List.getElem?_eq_getElem (by omega)⟩
  · refine ⟨l[j - 1]'(by omega), j - 1, List.getElem?_eq_getElem (by omega), ?_⟩
    have e : j - 1 + 1 = j := by omega
    rw [e]; exact hj
end

/-- How points stand in a line, seen from one beside it. -/
structure Row (b : List Pt) (p : Pt) (R : Pt → Pt → Prop) : Prop where
  mem : ∀ x y, R x y → x ∈ b ∧ y ∈ b ∧ 0 < D x y p
  gap : ∀ x y, R x y → ∀ z ∈ b, 0 ≤ D z x p ∨ 0 ≤ D y z p
  fn : ∀ x y y', R x y → R x y' → y = y'
  inj : ∀ x x' y, R x y → R x' y → x = x'
  ex : ∀ x ∈ b, ∀ z ∈ b, 0 < D x z p → (∃ y, R x y) ∧ ∃ y, R y z
  one : ∀ x ∈ b, ∀ z ∈ b, D x z p = 0 → x = z
  line : ∀ x ∈ b, ∀ y ∈ b, ∀ z ∈ b, D x y z = 0
  off : p ∉ b

/-- The fan of triangles over a row. -/
def Fan (R : Pt → Pt → Prop) (p : Pt) (m : Ms) : Prop := ∀ u v w, m (u, v) = some w ↔ (R u v ∧ w = p) ∨ (v = p ∧ R w u) ∨ (u = p ∧ R v w)

theorem fan_ok {b : List Pt} {p : Pt} {R : Pt → Pt → Prop} {m : Ms} (hR : Row b p R) (hm : Fan R p m) : Ok (b ++ [p]) m := by
  have inS : ∀ {x}, x ∈ b → x ∈ b ++ [p] := fun k => List.mem_append_left _ k
  have inP : p ∈ b ++ [p] := List.mem_append_right _ (by simp)
  have cases' : ∀ {x}, x ∈ b ++ [p] → x ∈ b ∨ x = p := fun k => by simpa using k
  have t1 : ∀ x y z : Pt, D y p z = D z y p := fun x y z => D_turn z y p
  have t2 : ∀ x z : Pt, D p x z = D x z p := fun x z => D_turn' x z p
  have tri : ∀ {x y z : Pt}, R x y → z ∈ b ++ [p] → 0 ≤ D y p z → 0 ≤ D p x z → z = x ∨ z = y ∨ z = p := by
    intro x y z hxy hz g1 g2
    rcases cases' hz with hz | hz
    · rw [t1 x] at g1
      rw [t2] at g2
      have a := hR.mem _ _ hxy
      rcases hR.gap _ _ hxy z hz with k | k
      · have : D z x p = -D x z p := D_swap' x z p
        exact .inl (hR.one z hz x a.1 (by omega))
      · have : D y z p = -D z y p := D_swap' z y p
        exact .inr (.inl (hR.one z hz y a.2.1 (by omega)))
    · exact .inr (.inr hz)
  have nb : ∀ {u v : Pt}, Nb m u v → (u ∈ b ∨ u = p) ∧ (v ∈ b ∨ v = p) := by
    intro u v hn
    rcases hn with k | k
    · obtain ⟨w, e⟩ := isSome_get k
      rcases (hm _ _ _).1 e with ⟨k, _⟩ | ⟨k, k'⟩ | ⟨k, k'⟩
      · exact ⟨.inl (hR.mem _ _ k).1, .inl (hR.mem _ _ k).2.1⟩
      · exact ⟨.inl (hR.mem _ _ k').2.1, .inr k⟩
      · exact ⟨.inr k, .inl (hR.mem _ _ k').1⟩
    · obtain ⟨w, e⟩ := isSome_get k
      rcases (hm _ _ _).1 e with ⟨k, _⟩ | ⟨k, k'⟩ | ⟨k, k'⟩
      · exact ⟨.inl (hR.mem _ _ k).2.1, .inl (hR.mem _ _ k).1⟩
      · exact ⟨.inr k, .inl (hR.mem _ _ k').2.1⟩
      · exact ⟨.inl (hR.mem _ _ k').1, .inr k⟩
  refine ⟨?_, ?_, ?_, ?_, ?_, ?_⟩
  · intro u v w e
    rcases (hm _ _ _).1 e with ⟨k, rfl⟩ | ⟨rfl, k⟩ | ⟨rfl, k⟩
    · exact ⟨inS (hR.mem _ _ k).1, inS (hR.mem _ _ k).2.1, inP⟩
    · exact ⟨inS (hR.mem _ _ k).2.1, inP, inS (hR.mem _ _ k).1⟩
    · exact ⟨inP, inS (hR.mem _ _ k).1, inS (hR.mem _ _ k).2.1⟩
  · intro u v w e
    rcases (hm _ _ _).1 e with ⟨k, rfl⟩ | ⟨rfl, k⟩ | ⟨rfl, k⟩
    · exact (hR.mem _ _ k).2.2
    · rw [t1 u]; exact (hR.mem _ _ k).2.2
    · rw [t2]; exact (hR.mem _ _ k).2.2
  · intro u v w e
    rcases (hm _ _ _).1 e with ⟨k, rfl⟩ | ⟨rfl, k⟩ | ⟨rfl, k⟩
    · exact (hm _ _ _).2 (.inr (.inl ⟨rfl, k⟩))
    · exact (hm _ _ _).2 (.inr (.inr ⟨rfl, k⟩))
    · exact (hm _ _ _).2 (.inl ⟨k, rfl⟩)
  · intro u v w e x hx g1 g2 g3
    rcases (hm _ _ _).1 e with ⟨k, rfl⟩ | ⟨rfl, k⟩ | ⟨rfl, k⟩
    · exact tri k hx g2 g3
    · rcases tri k hx g1 g2 with c | c | c
      · exact .inr (.inr c)
      · exact .inl c
      · exact .inr (.inl c)
    · rcases tri k hx g3 g1 with c | c | c
      · exact .inr (.inl c)
      · exact .inr (.inr c)
      · exact .inl c
  · intro u v w e hn x hx
    rcases (hm _ _ _).1 e with ⟨k, rfl⟩ | ⟨rfl, k⟩ | ⟨rfl, k⟩
    · have a := hR.mem _ _ k
      rcases cases' hx with hx | rfl
      · rw [hR.line _ a.1 _ a.2.1 _ hx]; omega
      · omega
    · have a := hR.mem _ _ k
      rcases cases' hx with hx | rfl
      · rw [t1 u]
        rcases lt_or_ge' (D x u v) 0 with c | c
        · exfalso
          obtain ⟨⟨y, hy⟩, _⟩ := hR.ex u a.2.1 x hx (by rw [D_swap']; omega)
          have := (hm v u y).2 (.inr (.inr ⟨rfl, hy⟩))
          rw [hn] at this; cases this
        · exact c
      · rw [D_same2]; omega
    · have a := hR.mem _ _ k
      rcases cases' hx with hx | rfl
      · rw [t2]
        rcases lt_or_ge' (D v x u) 0 with c | c
        · exfalso
          obtain ⟨_, y, hy⟩ := hR.ex x hx v a.1 (by rw [D_swap']; omega)
          have := (hm v u y).2 (.inr (.inl ⟨rfl, hy⟩))
          rw [hn] at this; cases this
        · exact c
      · rw [D_same1]; omega
  · intro u v w e v' hn
    have hv := nb hn
    rcases (hm _ _ _).1 e with ⟨k, rfl⟩ | ⟨rfl, k⟩ | ⟨rfl, k⟩
    · have a := hR.mem _ _ k
      rintro ⟨q1, q2⟩
      rcases hv.2 with c | c
      · rw [hR.line _ a.1 _ a.2.1 _ c] at q1; omega
      · rw [c, D_same2] at q2; omega
    · have a := hR.mem _ _ k
      rintro ⟨q1, q2⟩
      rcases hv.2 with c | c
      · rw [hR.line _ a.2.1 _ c _ a.1] at q2; omega
      · rw [c, D_same2] at q1; omega
    · have a := hR.mem _ _ k
      rintro ⟨q1, q2⟩
      rcases hv.2 with c | c
      · rw [t2] at q1 q2
        rcases hR.gap _ _ k v' c with d | d
        · rw [D_swap'] at d; omega
        · rw [D_swap'] at d; omega
      · rw [c, D_same1] at q1; omega

theorem fan_corners {b : List Pt} {p : Pt} {R : Pt → Pt → Prop} {m : Ms} (hR : Row b p R) (hm : Fan R p m) {x0 x1 : Pt} (h0 : x0 ∈ b) (h1 : x1 ∈ b) (hne : x0 ≠ x1) : Corners (b ++ [p]) m := by
  have hb : ∀ x ∈ b, ∃ y, (m (x, y)).isSome = true := by
    intro x hx
    have : ∃ z ∈ b, D x z p ≠ 0 := by
      rcases Classical.em (x = x0) with c | c
      · exact ⟨x1, h1, fun k => hne (c ▸ hR.one x hx x1 h1 k)⟩
      · exact ⟨x0, h0, fun k => c (hR.one x hx x0 h0 k)⟩
    obtain ⟨z, hz, hd⟩ := this
    rcases Int.lt_or_gt_of_ne hd with k | k
    · obtain ⟨_, y, hy⟩ := hR.ex z hz x hx (by rw [D_swap']; omega)
      exact ⟨p, by rw [(hm x p y).2 (.inr (.inl ⟨rfl, hy⟩))]; rfl⟩
    · obtain ⟨⟨y, hy⟩, _⟩ := hR.ex x hx z hz k
      exact ⟨y, by rw [(hm x y p).2 (.inl ⟨hy, rfl⟩)]; rfl⟩
  intro x hx
  rcases List.mem_append.1 hx with hx | hx
  · exact hb x hx
  · have : x = p := by simpa using hx
    subst this
    obtain ⟨y, hy⟩ := hb x0 h0
    obtain ⟨w, e⟩ := isSome_get hy
    rcases (hm _ _ _).1 e with ⟨k, _⟩ | ⟨_, k⟩ | ⟨k, _⟩
    · exact ⟨x0, by rw [(hm x x0 y).2 (.inr (.inr ⟨rfl, k⟩))]; rfl⟩
    · exact ⟨w, by rw [(hm x w x0).2 (.inr (.inr ⟨rfl, k⟩))]; rfl⟩
    · exact absurd (k ▸ h0) hR.off

end Go.Proofs.YtgeoffpcmkofkaaGreat
/- The walk of 'Distinct' of package order. -/
namespace Go.Proofs.YtgeoffpcmkofkaaGreat
open Go.RowKit Fl Go.Sort Go.Shelf Go.Lib
set_option maxRecDepth 100000
attribute [local go_sem ↓] Go.wp_at_zero Go.wp_at_succ

theorem sortP_none (p : Option Addr) (cap : Nat) (fv : Value) (w : World) : Calls Tryz.prog 41 #[.slice p 0 cap, fv] w fun e w' => e = .returned (.tuple #[]) ∧ w = w' := by
  have h := AnyF.slices_SortFunc_none Tryz.sortP p cap fv w
  change Calls Tryz.prog 41 _ _ _ at h
  exact h.mono fun _ _ hh => ⟨hh.1, hh.2.symm⟩
theorem sortT_none (p : Option Addr) (cap : Nat) (fv : Value) (w : World) : Calls Tryz.prog 49 #[.slice p 0 cap, fv] w fun e w' => e = .returned (.tuple #[]) ∧ w = w' := by
  have h := AnyF.slices_SortFunc_none Tryz.sortT p cap fv w
  change Calls Tryz.prog 49 _ _ _ at h
  exact h.mono fun _ _ hh => ⟨hh.1, hh.2.symm⟩
theorem sortE_none (p : Option Addr) (cap : Nat) (fv : Value) (w : World) : Calls Tryz.prog 69 #[.slice p 0 cap, fv] w fun e w' => e = .returned (.tuple #[]) ∧ w = w' := by
  have h := AnyF.slices_SortFunc_none Tryz.sortE p cap fv w
  change Calls Tryz.prog 69 _ _ _ at h
  exact h.mono fun _ _ hh => ⟨hh.1, hh.2.symm⟩

/-- In their order, each once. -/
structure IsDis (l s : Pts) : Prop where
  rising : Rising s
  mem : ∀ x, x ∈ s ↔ x ∈ l
  len : s.length ≤ l.length

theorem rising_snoc {s : Pts} {p : Pt} (h : Rising s) (hp : ∀ x ∈ s, K x < K p) : Rising (s ++ [p]) := by
  intro i j x y hi hj hij
  rcases Nat.lt_or_ge j s.length with k | k
  · rw [List.getElem?_append_left (by omega)] at hi hj
    exact h i j x y hi hj hij
  · have hj' := (List.getElem?_eq_some_iff.1 hj).1
    simp at hj'
    have e : j = s.length := by omega
    subst e
    rw [List.getElem?_append_left (by omega)] at hi
    simp at hj
    subst hj
    exact hp x (List.mem_of_getElem? hi)

/-- What is left of a sorted list. -/
theorem ddN_dis {l : Pts} (hs : l.Pairwise fun x y => K x ≤ K y) (hi : ∀ x ∈ l, ∀ y ∈ l, K x = K y → x = y) : ∀ k, k ≤ l.length → Rising (ddN l k) ∧ (∀ x, x ∈ ddN l k ↔ x ∈ l.take k)
  | 0, _ => ⟨fun i j x y h => by simp [ddN] at h, fun x => by simp [ddN]⟩
  | k + 1, hk => by
    obtain ⟨h1, h2⟩ := ddN_dis hs hi k (by omega)
    have hp : l[k]? = some l[k] := List.getElem?_eq_getElem (by omega)
    have ht : l.take (k + 1) = l.take k ++ [l[k]] := by rw [List.take_add_one, hp]; rfl
    rcases Classical.em (0 < k ∧ l[k - 1]? = some l[k]) with c | c
    · rw [ddN_same hp c.1 c.2]
      refine ⟨h1, fun x => ?_⟩
      rw [h2, ht]
      simp only [List.mem_append, List.mem_singleton]
      constructor
      · exact .inl
      · rintro (h | rfl)
        · exact h
        · exact List.mem_of_getElem? (i := k - 1) (by rw [List.getElem?_take_of_lt (by omega)]; exact c.2)
    · rw [ddN_other hp (fun c0 c1 => c ⟨c0, c1⟩)]
      refine ⟨rising_snoc h1 fun x hx => ?_, fun x => ?_⟩
      · have hx' := (h2 x).1 hx
        obtain ⟨i, hi'⟩ := List.mem_iff_getElem?.1 hx'
        have hik : i < k := by
          have := (List.getElem?_eq_some_iff.1 hi').1
          simp at this; omega
        rw [List.getElem?_take_of_lt hik] at hi'
        have hil : i < l.length := by omega
        have hxe : x = l[i] := by rw [List.getElem?_eq_getElem hil] at hi'; injection hi' with e; exact e.symm
        have hle : K x ≤ K l[k] := by rw [hxe]; exact (List.pairwise_iff_getElem.1 hs) i k hil (by omega) hik
        rcases Int.lt_or_eq_of_le hle with q | q
        · exact q
        · exfalso
          apply c
          have hk1 : k - 1 < l.length := by omega
          refine ⟨by omega, ?_⟩
          rw [List.getElem?_eq_getElem hk1]
          congr 1
          apply hi _ (List.getElem_mem hk1) _ (List.getElem_mem (by omega))
          have a1 : K l[k - 1] ≤ K l[k] := (List.pairwise_iff_getElem.1 hs) (k - 1) k hk1 (by omega) (by omega)
          have a2 : K l[i] ≤ K l[k - 1] := by
            rcases Nat.lt_or_ge i (k - 1) with d | d
            · exact (List.pairwise_iff_getElem.1 hs) i (k - 1) hil hk1 d
            · have : i = k - 1 := by omega
              subst this; omega
          rw [hxe] at q
          omega
      · rw [ht]
        simp only [List.mem_append, List.mem_singleton, h2]
theorem dis_unique {s s' : Pts} (h : Rising s) (h' : Rising s') (hm : ∀ x, x ∈ s ↔ x ∈ s') : s = s' := by
  have key : ∀ (s s' : Pts), Rising s → Rising s' → (∀ x, x ∈ s ↔ x ∈ s') → s = s' := by
    intro s
    induction s with
    | nil =>
      intro s' _ _ hm
      cases s' with
      | nil => rfl
      | cons a l => have := (hm a).2 (by simp); simp at this
    | cons a l ih =>
      intro s' h h' hm
      cases s' with
      | nil => have := (hm a).1 (by simp); simp at this
      | cons b l' =>
        have tl : ∀ {c : Pt} {t : Pts}, Rising (c :: t) → Rising t := fun hh i j x y hi hj hij => hh (i + 1) (j + 1) x y (by simpa using hi) (by simpa using hj) (by omega)
        have lt : ∀ {c : Pt} {t : Pts}, Rising (c :: t) → ∀ x ∈ t, K c < K x := fun hh x hx => by
          obtain ⟨i, hi⟩ := List.mem_iff_getElem?.1 hx
          exact hh 0 (i + 1) _ x rfl (by simpa using hi) (by omega)
        have e : a = b := by
          have m1 := (hm a).1 (by simp)
          have m2 := (hm b).2 (by simp)
          rcases List.mem_cons.1 m1 with e | m1
          · exact e
          · rcases List.mem_cons.1 m2 with e | m2
            · exact e.symm
            · have := lt h b m2; have := lt h' a m1; omega
        subst e
        congr 1
        refine ih l' (tl h) (tl h') fun x => ?_
        have hx := hm x
        simp only [List.mem_cons] at hx
        constructor
        · intro hl
          rcases hx.1 (.inr hl) with e | k
          · have := lt h x hl; rw [e] at this; omega
          · exact k
        · intro hl
          rcases hx.2 (.inr hl) with e | k
          · have := lt h' x hl; rw [e] at this; omega
          · exact k
  exact key s s' h h' hm

theorem New.own {w w1 w2 : World} {g : Nat} (h : New w w1) (h2 : w1.grownBy w2 (some g)) (hg : w.heap.size ≤ g) : New w w2 :=
  ⟨h2.os.trans h.os, h2.tape.trans h.tape, h2.output.trans h.output, Nat.le_trans h.size h2.size, fun k hk _ => (h2.block k (Nat.lt_of_lt_of_le hk h.size) (by simp; omega)).trans (h.block k hk (by simp))⟩
theorem sorted_K {l : Pts} (hc : ∀ x ∈ l, CdP x) (h : l.Pairwise fun x y => ltOf cmpP y x = false) : l.Pairwise fun x y => K x ≤ K y := by
  rw [List.pairwise_iff_getElem] at *
  intro i j hi hj hij
  have := h i j hi hj hij
  rw [ltOf_not, cmpP_eq (hc _ (List.getElem_mem hj)) (hc _ (List.getElem_mem hi)), sgn_neg'] at this
  omega

set_option maxHeartbeats 800000 in
theorem distinct_some (g cap : Nat) (l : Pts) (w : World) (hp : PtsAt w g 0 l) (hl : l.length ≤ 1000000) (hc : ∀ x ∈ l, CdP x) :
    Calls Tryz.prog 27 #[.slice (some ⟨g, 0, none⟩) l.length cap] w fun e w' => ∃ v s, e = .returned v ∧ Hid (IsDis l s ∧ New w w' ∧ OwnP w' w.heap.size v s) := by
  have HC : Hid (∀ x ∈ l, CdP x) := hc
  go_enter Tryz.func27, Tryz.ntmps27
  go_wp2_with fail
  refine (clone_some g cap l w hp hl).mono ?_
  rintro e w1 ⟨v1, rfl, hv, H1⟩
  rcases H1.out.2.form with ⟨e1, _⟩ | ⟨g1, c1, e1, hb1, hg1, hlc, hcm⟩
  · exact absurd e1 hv
  · subst e1
    have HB : Hid (w.heap.size ≤ g1 ∧ g1 < w1.heap.size ∧ l.length ≤ c1) := ⟨hb1, hg1, hlc⟩
    clear hv hb1 hg1 hlc hcm hp hc
    go_wp2_with fail
    refine (sortP_any w.heap.size g1 c1 l w1 H1.out.2 HB.out.2.1 (by omega)).mono ?_
    rintro e w2 ⟨rfl, H2⟩
    obtain ⟨s2, k1, k2, k3, k4⟩ := H2.out
    have hlen : s2.length = l.length := k1.length_eq
    have HS : Hid (s2.Perm l ∧ (s2.Pairwise fun x y => K x ≤ K y) ∧ OwnP w2 w.heap.size (.slice (some ⟨g1, 0, none⟩) s2.length c1) s2 ∧ New w w2) := ⟨k1, sorted_K (fun x hx => HC.out x (k1.mem_iff.1 hx)) k2, by unfold OwnP; rw [hlen]; exact k3, H1.out.1.own k4 HB.out.1⟩
    clear H2 k1 k2 k3 k4
    have hq := compact_some w.heap.size g1 c1 s2 w2 HS.out.2.2.1 (by omega) (by have := HB.out.2.2; omega)
    rw [hlen] at hq
    have HL : Hid (s2.length = l.length) := hlen
    have HQ : Hid (Calls Tryz.prog 43 #[.slice (some ⟨g1, 0, none⟩) l.length c1] w2 fun e w' => e = .returned (.slice (some ⟨g1, 0, none⟩) (ddN s2 l.length).length c1) ∧ Hid (w2.grownBy w' (some g1) ∧ OwnP w' w.heap.size (.slice (some ⟨g1, 0, none⟩) (ddN s2 l.length).length c1) (ddN s2 l.length))) := hq
    clear hlen hq
    go_wp2_with fail
    refine HQ.out.mono ?_
    rintro e w3 ⟨rfl, H3⟩
    go_wp2_with fail
    go_ret
    rw [← HL.out]
    rw [← HL.out] at H3
    refine ⟨_, _, rfl, ⟨?_, ?_, ?_⟩, HS.out.2.2.2.own H3.out.1 HB.out.1, H3.out.2⟩
    · exact (ddN_dis HS.out.2.1 (fun x hx y hy hk => K_inj (HC.out x (HS.out.1.mem_iff.1 hx)) (HC.out y (HS.out.1.mem_iff.1 hy)) hk) s2.length (Nat.le_refl _)).1
    · intro x
      rw [(ddN_dis HS.out.2.1 (fun x hx y hy hk => K_inj (HC.out x (HS.out.1.mem_iff.1 hx)) (HC.out y (HS.out.1.mem_iff.1 hy)) hk) s2.length (Nat.le_refl _)).2, List.take_length]
      exact HS.out.1.mem_iff
    · have := ddN_le s2 s2.length; have := HL.out; omega

set_option maxHeartbeats 800000 in
theorem distinct_nil (w : World) : Calls Tryz.prog 27 #[.slice none 0 0] w fun e w' => e = .returned (.slice none 0 0) ∧ Hid (New w w') := by
  go_enter Tryz.func27, Tryz.ntmps27
  go_wp2_with fail
  refine (clone_nil w).mono ?_
  rintro e w1 ⟨rfl, H1⟩
  go_wp2_with fail
  refine (sortP_none none 0 _ _).mono ?_
  rintro e w2 ⟨rfl, rfl⟩
  go_wp2_with fail
  refine (compact_nil _).mono ?_
  rintro e w2 ⟨rfl, H2⟩
  go_wp2_with fail
  go_ret
  exact ⟨rfl, H1.out.trans' H2.out⟩

end Go.Proofs.YtgeoffpcmkofkaaGreat
/- The walk of 'FirstNumbers' of package order. -/
namespace Go.Proofs.YtgeoffpcmkofkaaGreat
open Go.RowKit Go.Maps Fl
set_option maxRecDepth 100000
attribute [local go_sem ↓] Go.wp_at_zero Go.wp_at_succ

/-- The numbers of the first k points. -/
def numN (l : Pts) : Nat → Ns
  | 0 => fun _ => none
  | k + 1 => match l[k]? with
    | none => numN l k
    | some p => if (numN l k p).isSome then numN l k else setN (numN l k) p k

section
variable (w : World) {ops : Array Oper} {rest : List Oper} {o : Oper} {a : Act} {Q : Exit → Act → World → Prop}
theorem wpList_lookI_some (hg : o.guard = none) (x y : Operand) (hop : o.op = Op.lookup 54 x y true) (b n : Nat) (m : Ns) (hm : a.eval x = .map (some b)) (h : MapI w b n m) (e : Pt) (hy : a.eval y = ptV e) {c : Int} (hc : m e = some c)
    (hK : wpList Tryz.prog ops Q rest (a.put o.dst (.tuple #[.int .i64 c, .bool true])) w) : wpList Tryz.prog ops Q (o :: rest) a w :=
  wpList_lookI_ok w hg x y hop b n m hm h e hy (h.sup hc) (by rw [hc, show atN m e = c by simp [atN, hc]]; exact hK)
theorem wpList_lookI_none (hg : o.guard = none) (x y : Operand) (hop : o.op = Op.lookup 54 x y true) (b n : Nat) (m : Ns) (hm : a.eval x = .map (some b)) (h : MapI w b n m) (e : Pt) (hy : a.eval y = ptV e) (he : CdP e) (hc : m e = none)
    (hK : wpList Tryz.prog ops Q rest (a.put o.dst (.tuple #[.int .i64 0, .bool false])) w) : wpList Tryz.prog ops Q (o :: rest) a w :=
  wpList_lookI_ok w hg x y hop b n m hm h e hy he (by rw [hc, show atN m e = 0 by simp [atN, hc]]; exact hK)
end

theorem make54 (n : Int) (w : World) : (Instr.makeMap 54 (some (.int .i64 n))).run Tryz.prog w = .ok (.map (some w.heap.size)) (w.alloc (.map #[] 0)) := by
  simp [Instr.makeMap, run_underlying Tryz.underlying54, asInt, asIntOf, Result.andThen]

/-- Where the loop stands. -/
structure FN (w wr : World) (b : Nat) (l : Pts) (k : Nat) : Prop where
  new : New w wr
  map : MapI wr b k (numN l k)

set_option maxHeartbeats 1600000 in
theorem first_some (g cap : Nat) (l : Pts) (w : World) (hp : PtsAt w g 0 l) (hg : g < w.heap.size) (hl : l.length ≤ 1000000) (hc : ∀ x ∈ l, CdP x) :
    Calls Tryz.prog 30 #[.slice (some ⟨g, 0, none⟩) l.length cap] w fun e w' => ∃ b, e = .returned (.map (some b)) ∧ Hid (New w w' ∧ w.heap.size ≤ b ∧ MapI w' b l.length (numN l l.length)) := by
  have HP : Hid (PtsAt w g 0 l ∧ g < w.heap.size ∧ ∀ x ∈ l, CdP x) := ⟨hp, hg, hc⟩
  have hmm := make54 (l.length : Int) w
  clear hp hg hc
  go_enter Tryz.func30, Tryz.ntmps30
  go_wp2_with fail
  go_loopw [13] (fun i wr => ∃ k : Nat, i = .int .i64 (k : Int) ∧ k ≤ l.length ∧ Hid (FN w wr w.heap.size l k)) (fun i _ => l.length - (intOf i).toNat)
  case atStart => exact ⟨0, rfl, Nat.zero_le _, (New.refl w).alloc' _, mapI_made w⟩
  case round =>
    obtain ⟨k, rfl, hk, H⟩ := hrel
    rcases Nat.lt_or_ge k l.length with hk' | hk'
    · have hc := HP.out.1.kept HP.out.2.1 H.out.new k hk'
      rw [Nat.zero_add] at hc
      obtain ⟨p, hp⟩ : ∃ p, p = l[k] := ⟨_, rfl⟩
      have HC : Hid (CdP p ∧ l[k]? = some p) := ⟨by rw [hp]; exact HP.out.2.2 _ (List.getElem_mem hk'), by rw [hp]; exact List.getElem?_eq_getElem hk'⟩
      rw [← hp] at hc
      obtain ⟨x0, x1⟩ := hc
      clear hp
      have i0 : (0 : Int) ≤ (k : Int) := by omega
      have i1 : (k : Int) < (l.length : Int) := by omega
      have hw1 : IntKind.i64.wrap ((k : Int) + 1) = (k : Int) + 1 := by rw [IntKind.wrap_i64]; omega
      cases hn : numN l k p with
      | some c =>
        have HN : Hid (numN l (k + 1) = numN l k) := by rw [Hid]; simp only [numN, HC.out.2]; rw [if_pos (by rw [hn]; rfl)]
        go_wp2_with (first
          | (at_lookup; refine wpList_lookI_some _ rfl _ _ rfl w.heap.size k _ rfl (H.out.map.new (New.alloc _ _)) p rfl hn ?_)
          | go_in)
        go_roundw
        case rel => exact ⟨k + 1, by go_num, hk', H.out.new.alloc' _, by rw [HN.out]; exact (H.out.map.new (New.alloc _ _)).mono (by omega)⟩
        case measure => simp [intOf]; omega
      | none =>
        have HN : Hid (numN l (k + 1) = setN (numN l k) p k) := by rw [Hid]; simp only [numN, HC.out.2]; rw [if_neg (by rw [hn]; simp)]
        go_wp2_with (first
          | (at_lookup; refine wpList_lookI_none _ rfl _ _ rfl w.heap.size k _ rfl (H.out.map.new (New.alloc _ _)) p rfl HC.out.1 hn ?_)
          | (at_mapUpdate; refine wpList_storeI _ rfl _ _ _ rfl w.heap.size k _ rfl (H.out.map.new (New.alloc _ _)) (by unfold maxLen; omega) p (k : Int) rfl rfl HC.out.1 ?_
             intro w3 h3 t3
             have H3 : Hid (FN w w3 w.heap.size l (k + 1)) := ⟨(H.out.new.alloc' _).own t3.grown (Nat.le_refl _), by rw [HN.out]; exact h3⟩
             clear h3 t3)
          | go_in)
        go_roundw
        case rel => exact ⟨k + 1, by go_num, hk', H3⟩
        case measure => simp [intOf]; omega
    · have e : k = l.length := by omega
      subst e
      go_wp2_with fail
      go_ret
      exact ⟨_, rfl, H.out.new, Nat.le_refl _, H.out.map⟩

set_option maxHeartbeats 800000 in
theorem first_nil (w : World) : Calls Tryz.prog 30 #[.slice none 0 0] w fun e w' => ∃ b, e = .returned (.map (some b)) ∧ Hid (New w w' ∧ w.heap.size ≤ b ∧ MapI w' b 0 (fun _ => none)) := by
  have hmm := make54 0 w
  go_enter Tryz.func30, Tryz.ntmps30
  go_wp2_with fail
  go_loop [13] (fun i => i = .int .i64 0) (fun _ => 0)
  case atStart => rfl
  case round =>
    subst hrel
    go_wp2_with fail
    go_ret
    exact ⟨_, rfl, (New.refl w).alloc' _, Nat.le_refl _, mapI_made w⟩

end Go.Proofs.YtgeoffpcmkofkaaGreat
/- The walks of package mesh: 'inLine', 'joinLine', 'seenFrom'. -/
namespace Go.Proofs.YtgeoffpcmkofkaaGreat
open Go.RowKit Go.Maps Fl
set_option maxRecDepth 100000
attribute [local go_sem ↓] Go.wp_at_zero Go.wp_at_succ

/-- They lie in the line of the first two, up to there. -/
structure InL (s : Pts) (n : Nat) : Prop where
  ge : min 2 s.length ≤ n
  le : n ≤ s.length
  line : ∀ i, i < n → D (ptAt s 0) (ptAt s 1) (ptAt s i) = 0

set_option maxHeartbeats 1600000 in
theorem inLine_gen (base g cap N : Nat) (s : Pts) (w : World) (HN : Hid (s.length = N)) (h : OwnP w base (.slice (some ⟨g, 0, none⟩) s.length cap) s) (hl : N ≤ 1000000) (hc : ∀ x ∈ s, CdP x) :
    Calls Tryz.prog 36 #[.slice (some ⟨g, 0, none⟩) N cap] w fun e w' => ∃ n : Nat, e = .returned (.int .i64 n) ∧ Hid (New w w' ∧ InL s n ∧ (n < N → D (ptAt s 0) (ptAt s 1) (ptAt s n) ≠ 0)) := by
  have H : Hid (OwnP w base (.slice (some ⟨g, 0, none⟩) s.length cap) s ∧ ∀ x ∈ s, CdP x) := ⟨h, hc⟩
  clear h hc
  go_enter Tryz.func36, Tryz.ntmps36
  go_wp2_with fail
  go_loopw [3] (fun v wr => ∃ n : Nat, v = .int .i64 (n : Int) ∧ n ≤ N ∧ min 2 N ≤ n ∧ Hid (New w wr ∧ InL s n)) (fun v _ => N - (intOf v).toNat)
  case atStart =>
    refine ⟨min 2 N, by rw [show ((min 2 N : Nat) : Int) = min 2 (N : Int) by omega], Nat.min_le_right _ _, Nat.le_refl _, New.refl _, by rw [HN.out]; exact Nat.le_refl _, by rw [HN.out]; exact Nat.min_le_right _ _, fun i hi => ?_⟩
    have : i = 0 ∨ i = 1 := by omega
    rcases this with rfl | rfl
    · exact D_same1 _ _
    · exact D_same2 _ _
  case round =>
    obtain ⟨n, rfl, hn, hn2, HR⟩ := hrel
    rcases Nat.lt_or_ge n N with hk | hk
    · have hN := HN.out
      have HO : Hid (OwnP wr base (.slice (some ⟨g, 0, none⟩) s.length cap) s) := H.out.1.new HR.out.1
      obtain ⟨a0, a1⟩ := HO.out.cell (show 0 < s.length by omega)
      obtain ⟨b0, b1⟩ := HO.out.cell (show 1 < s.length by omega)
      obtain ⟨c0, c1⟩ := HO.out.cell (show n < s.length by omega)
      rw [← ptAt_eq] at a0 a1 b0 b1 c0 c1
      have CA : Hid (CdP (ptAt s 0) ∧ CdP (ptAt s 1) ∧ CdP (ptAt s n)) := ⟨by rw [ptAt_eq (by omega)]; exact H.out.2 _ (List.getElem_mem _), by rw [ptAt_eq (by omega)]; exact H.out.2 _ (List.getElem_mem _), by rw [ptAt_eq (by omega)]; exact H.out.2 _ (List.getElem_mem _)⟩
      obtain ⟨pa, ha⟩ : ∃ pa, pa = ptAt s 0 := ⟨_, rfl⟩
      obtain ⟨pb, hb⟩ : ∃ pb, pb = ptAt s 1 := ⟨_, rfl⟩
      obtain ⟨pc, hc⟩ : ∃ pc, pc = ptAt s n := ⟨_, rfl⟩
      rw [← ha] at a0 a1
      rw [← hb] at b0 b1
      rw [← hc] at c0 c1
      rw [← ha, ← hb, ← hc] at CA
      have HE : Hid (pa = ptAt s 0 ∧ pb = ptAt s 1 ∧ pc = ptAt s n) := ⟨ha, hb, hc⟩
      clear ha hb hc
      simp only [Nat.zero_mul, Nat.zero_add, Nat.one_mul] at a0 a1 b0 b1
      have i0 : (0 : Int) ≤ (n : Int) := by omega
      have i1 : (n : Int) < (N : Int) := by omega
      have i2 : (0 : Int) < (N : Int) := by omega
      have i3 : (1 : Int) < (N : Int) := by omega
      have i5 : 0 < N := by omega
      have i6 : 1 < N := by omega
      clear hN
      have hgl : g < wr.heap.size := World.block_lt_of_cell? wr _ a0
      have KS : Hid (∀ V, New wr V → V.cell? ⟨g, 0, none⟩ = some (.int .i64 pa.1) ∧ V.cell? ⟨g, 1, none⟩ = some (.int .i64 pa.2) ∧ V.cell? ⟨g, 2, none⟩ = some (.int .i64 pb.1) ∧ V.cell? ⟨g, 3, none⟩ = some (.int .i64 pb.2) ∧ V.cell? ⟨g, n * 2, none⟩ = some (.int .i64 pc.1) ∧ V.cell? ⟨g, n * 2 + 1, none⟩ = some (.int .i64 pc.2)) := fun V hV => ⟨hV.kept a0, hV.kept a1, hV.kept b0, hV.kept b1, hV.kept c0, hV.kept c1⟩
      have hw1 : IntKind.i64.wrap ((n : Int) + 1) = (n : Int) + 1 := by rw [IntKind.wrap_i64]; omega
      have CN : Hid (New wr wr.drew) := (New.refl wr).dr
      go_wp2_with fail
      go_region_held3 (fun V => V.cell? ⟨g, 0, none⟩ = some (.int .i64 pa.1) ∧ V.cell? ⟨g, 1, none⟩ = some (.int .i64 pa.2) ∧ V.cell? ⟨g, 2, none⟩ = some (.int .i64 pb.1) ∧ V.cell? ⟨g, 3, none⟩ = some (.int .i64 pb.2) ∧ V.cell? ⟨g, n * 2, none⟩ = some (.int .i64 pc.1) ∧ V.cell? ⟨g, n * 2 + 1, none⟩ = some (.int .i64 pc.2))
        (exact KS.out _ CN.out)
        (first | (go_at_call 24; refine (of_any pa.1 pa.2 pb.1 pb.2 pc.1 pc.2 _ CA.out.1.1 CA.out.1.2 CA.out.2.1.1 CA.out.2.1.2 CA.out.2.2.1 CA.out.2.2.2).mono ?_; rintro e w1 ⟨rfl, H1⟩; replace CN : Hid (New wr w1) := CN.out.trans' H1.out; clear H1))
      clear a0 a1 b0 b1 c0 c1
      by_cases hd : sgn (det pa.1 pa.2 pb.1 pb.2 pc.1 pc.2) = 0
      · have HD : Hid (InL s (n + 1)) := by
          have hN := HN.out
          refine ⟨by omega, by omega, fun i hi => ?_⟩
          rcases Nat.lt_or_ge i n with k | k
          · exact HR.out.2.line i k
          · have e : i = n := by omega
            subst e
            rw [← HE.out.1, ← HE.out.2.1, ← HE.out.2.2]
            exact sgn_zero.1 hd
        go_wp2_with fail
        go_roundw
        case rel => exact ⟨n + 1, by go_num, by omega, by omega, HR.out.1.trans' CN.out, HD.out⟩
        case measure => simp [intOf]; omega
      · have HD : Hid (D (ptAt s 0) (ptAt s 1) (ptAt s n) ≠ 0) := by
          rw [Hid, ← HE.out.1, ← HE.out.2.1, ← HE.out.2.2]
          exact fun k => hd (sgn_zero.2 k)
        go_wp2_with fail
        go_ret
        exact ⟨n, rfl, HR.out.1.trans' CN.out, HR.out.2, fun _ => HD.out⟩
    · have e : n = N := by omega
      subst e
      go_wp2_with fail
      go_quiet (fail)
      go_wp2_with fail
      go_ret
      exact ⟨n, rfl, HR.out.1.drewN _, HR.out.2, fun k => by omega⟩

theorem inLine_some (base g cap : Nat) (s : Pts) (w : World) (h : OwnP w base (.slice (some ⟨g, 0, none⟩) s.length cap) s) (hl : s.length ≤ 1000000) (hc : ∀ x ∈ s, CdP x) :
    Calls Tryz.prog 36 #[.slice (some ⟨g, 0, none⟩) s.length cap] w fun e w' => ∃ n : Nat, e = .returned (.int .i64 n) ∧ Hid (New w w' ∧ InL s n ∧ (n < s.length → D (ptAt s 0) (ptAt s 1) (ptAt s n) ≠ 0)) := inLine_gen base g cap s.length s w rfl h hl hc

set_option maxHeartbeats 800000 in
theorem inLine_nil (w : World) : Calls Tryz.prog 36 #[.slice none 0 0] w fun e w' => e = .returned (.int .i64 0) ∧ Hid (New w w') := by
  go_enter Tryz.func36, Tryz.ntmps36
  go_wp2_with fail
  go_loop [3] (fun v => v = .int .i64 0) (fun _ => 0)
  case atStart => rfl
  case round =>
    subst hrel
    go_wp2_with fail
    go_quiet (fail)
    go_wp2_with fail
    go_ret
    exact ⟨rfl, (New.refl _).drewN _⟩

end Go.Proofs.YtgeoffpcmkofkaaGreat
/- The walk of 'joinLine' of package mesh. -/
namespace Go.Proofs.YtgeoffpcmkofkaaGreat
open Go.RowKit Go.Maps Fl
set_option maxRecDepth 100000
attribute [local go_sem ↓] Go.wp_at_zero Go.wp_at_succ

open Classical in
noncomputable def joinF (p : Pt) (m : Ms) (a b : Pt) : Ms := if D a b p < 0 then addM m b a p else addM m a b p
noncomputable def joinN (line : Pts) (p : Pt) (m : Ms) : Nat → Ms
  | 0 => m
  | k + 1 => joinF p (joinN line p m k) (ptAt line k) (ptAt line (k + 1))

theorem twoA' (W : World) (o o' : Obj) : ((W.alloc o).alloc o').heap[W.heap.size]? = some o := ((New.alloc _ o').block _ (by simp) (by simp)).trans (_root_.Go.heap_alloc_new W o)
theorem twoB' (W : World) (o o' : Obj) : ((W.alloc o).alloc o').heap[W.heap.size + 1]? = some o' := by
  have := _root_.Go.heap_alloc_new (W.alloc o) o'
  simpa using this
/-- Where the loop stands. -/
structure JL (w wr : World) (b n : Nat) (line : Pts) (p : Pt) (m : Ms) (k : Nat) : Prop where
  map : MapE wr b (n + 3 * k) (joinN line p m k)
  gr : w.grownBy wr (some b)
  box : BoxP wr w.heap.size p
theorem JL.next {w wr wx : World} {b n : Nat} {line : Pts} {p : Pt} {m m' : Ms} {k : Nat} (h : JL w wr b n line p m k) (e : joinN line p m (k + 1) = m') (h1 : MapE wx b (n + 3 * k + 3) m') (h2 : wr.grownBy wx (some b)) (hb : b < w.heap.size) : JL w wx b n line p m (k + 1) :=
  ⟨by rw [e]; exact h1, h.gr.trans h2, h.box.grown h2 (by simp; omega)⟩

set_option maxHeartbeats 800000 in
theorem joinLine_any (b n g cap N : Nat) (line : Pts) (p : Pt) (m : Ms) (w : World) (HN : Hid (line.length = N)) (hm : MapE w b n m) (hn : n + 3 * N < maxLen) (hp : PtsAt w g 0 line) (hg : g < w.heap.size) (hgb : g ≠ b) (hl : N ≤ 1000000) (h1 : 2 ≤ N) (hcap : N ≤ cap) (hc : ∀ x ∈ line, CdP x) (hcp : CdP p) :
    Calls Tryz.prog 37 #[.map (some b), .slice (some ⟨g, 0, none⟩) N cap, .agg #[.int .i64 p.1, .int .i64 p.2]] w fun e w' => e = .returned (.tuple #[]) ∧ Hid (MapE w' b (n + 3 * (N - 1)) (joinN line p m (N - 1)) ∧ w.grownBy w' (some b)) := by
  have HP : Hid (PtsAt w g 0 line ∧ g < w.heap.size ∧ g ≠ b ∧ (∀ x ∈ line, CdP x) ∧ CdP p) := ⟨hp, hg, hgb, hc, hcp⟩
  have H0 : Hid (MapE w b n m ∧ b < w.heap.size) := ⟨hm, hm.lt⟩
  clear hm hp hg hgb hc hcp
  have i1 : (1 : Int) ≤ (N : Int) := by omega
  have i2 : (N : Int) ≤ (cap : Int) := by omega
  have i3 : 0 < N := by omega
  have i4 : 1 ≤ cap := by omega
  have i5 : cap ≠ 1 := by omega
  go_enter Tryz.func37, Tryz.ntmps37
  go_wp2_with fail
  go_loopw [12] (fun v wr => ∃ k : Nat, v = .int .i64 (k : Int) ∧ k ≤ N - 1 ∧ Hid (JL w wr b n line p m k)) (fun v _ => N - 1 - (intOf v).toNat)
  case atStart => exact ⟨0, rfl, Nat.zero_le _, H0.out.1.new (New.alloc _ _), (New.alloc _ _).but (some b), ⟨by go_simp, by go_simp⟩⟩
  case round =>
    obtain ⟨k, rfl, hk, H⟩ := hrel
    rcases Nat.lt_or_ge k (N - 1) with hk' | hk'
    · have hN := HN.out
      have HA := (HP.out.1 k (by omega))
      have HB := (HP.out.1 (k + 1) (by omega))
      rw [Nat.zero_add] at HA HB
      have a0 := grown_cell H.out.gr (by simpa using HP.out.2.2.1) HA.1
      have a1 := grown_cell H.out.gr (by simpa using HP.out.2.2.1) HA.2
      have b0 := grown_cell H.out.gr (by simpa using HP.out.2.2.1) HB.1
      have b1 := grown_cell H.out.gr (by simpa using HP.out.2.2.1) HB.2
      rw [← ptAt_eq (by omega)] at a0 a1 b0 b1
      have CD : Hid (CdP (ptAt line k) ∧ CdP (ptAt line (k + 1)) ∧ CdP p) := ⟨by rw [ptAt_eq (by omega)]; exact HP.out.2.2.2.1 _ (List.getElem_mem _), by rw [ptAt_eq (by omega)]; exact HP.out.2.2.2.1 _ (List.getElem_mem _), HP.out.2.2.2.2⟩
      obtain ⟨x, hx⟩ : ∃ x, x = ptAt line k := ⟨_, rfl⟩
      obtain ⟨y, hy⟩ : ∃ y, y = ptAt line (k + 1) := ⟨_, rfl⟩
      rw [← hx] at a0 a1
      rw [← hy] at b0 b1
      rw [← hx, ← hy] at CD
      have HE : Hid (joinN line p m (k + 1) = joinF p (joinN line p m k) x y) := by rw [hx, hy]; rfl
      have e2 : (k + 1) * 2 = 2 + k * 2 := by omega
      rw [e2] at b0 b1
      have hlt : g < wr.heap.size := World.block_lt_of_cell? wr _ a0
      have j0 : (0 : Int) ≤ (k : Int) := by omega
      have j1 : (k : Int) < (N : Int) := by omega
      have j2 : (k : Int) < ((N - 1 : Nat) : Int) := by omega
      have j3 : k < N := by omega
      have hw1 : IntKind.i64.wrap ((k : Int) + 1) = (k : Int) + 1 := by rw [IntKind.wrap_i64]; omega
      obtain ⟨p0, p1⟩ := H.out.box
      have hlp : w.heap.size < wr.heap.size := World.block_lt_of_cell? wr _ p0
      have hbw := H0.out.2
      clear hx hy hN e2 HA HB
      by_cases hd : D x y p < 0
      · have HM : Hid (joinN line p m (k + 1) = addM (joinN line p m k) y x p) := by rw [Hid, HE.out, joinF, if_pos hd]
        have hs : sgn (det x.1 x.2 y.1 y.2 p.1 p.2) < 0 := sgn_neg'.2 hd
        go_wp2_with fail
        refine (of_any x.1 x.2 y.1 y.2 p.1 p.2 _ CD.out.1.1 CD.out.1.2 CD.out.2.1.1 CD.out.2.1.2 CD.out.2.2.1 CD.out.2.2.2).mono ?_
        rintro e w1 ⟨rfl, H1⟩
        have N1 : Hid (New wr w1) := (((New.refl wr).alloc' _).alloc' _).trans' H1.out
        have k1 : w1.heap[wr.heap.size]? = some (.cells #[.int .i64 y.1, .int .i64 y.2] 36 (0, 0)) := (H1.out.block _ (by simp; omega) (by simp)).trans (twoA' wr _ _)
        have k2 : w1.heap[wr.heap.size + 1]? = some (.cells #[.int .i64 x.1, .int .i64 x.2] 36 (0, 0)) := (H1.out.block _ (by simp) (by simp)).trans (twoB' wr _ _)
        have q4 : w1.cell? ⟨w.heap.size, 0, none⟩ = some (.int .i64 p.1) := N1.out.kept p0
        have q5 : w1.cell? ⟨w.heap.size, 1, none⟩ = some (.int .i64 p.2) := N1.out.kept p1
        have q0 := pair_cell0 k1
        have q1 := pair_cell1 k1
        have q2 := pair_cell0 k2
        have q3 := pair_cell1 k2
        have f1 := fun o => pair_free (o := o) k1
        have f2 := fun o => pair_free (o := o) k2
        have n1 : w.heap.size ≠ wr.heap.size := by omega
        have n2 : w.heap.size ≠ wr.heap.size + 1 := by omega
        have HK : Hid (w1.heap[wr.heap.size]? = some (.cells #[.int .i64 y.1, .int .i64 y.2] 36 (0, 0)) ∧ w1.heap[wr.heap.size + 1]? = some (.cells #[.int .i64 x.1, .int .i64 x.2] 36 (0, 0))) := ⟨k1, k2⟩
        clear H1 a0 a1 b0 b1 p0 p1 k1 k2
        go_wp2_with fail
        have N2 : Hid (New wr ((((w1.setCell ⟨wr.heap.size + 1, 0, none⟩ (.int .i64 y.1)).setCell ⟨wr.heap.size + 1, 1, none⟩ (.int .i64 y.2)).setCell ⟨wr.heap.size, 0, none⟩ (.int .i64 x.1)).setCell ⟨wr.heap.size, 1, none⟩ (.int .i64 x.2))) := (((N1.out.set (by omega) _).set (by omega) _).set (by omega) _).set (by omega) _
        refine (add_any b (n + 3 * k) _ y x p _ (H.out.map.new N2.out) (by omega) CD.out.2.1 CD.out.1 CD.out.2.2).mono ?_
        rintro e w2 ⟨rfl, A2⟩
        have H2 : Hid (JL w w2 b n line p m (k + 1)) := H.out.next HM.out A2.out.1 ((N2.out.but (some b)).trans A2.out.2) hbw
        clear A2 q0 q1 q2 q3 q4 q5 f1 f2 N2
        go_wp2_with fail
        go_roundw
        case rel => exact ⟨k + 1, by go_num, by omega, H2⟩
        case measure => simp [intOf]; omega
      · have HM : Hid (joinN line p m (k + 1) = addM (joinN line p m k) x y p) := by rw [Hid, HE.out, joinF, if_neg hd]
        have hs : ¬sgn (det x.1 x.2 y.1 y.2 p.1 p.2) < 0 := fun c => hd (sgn_neg'.1 c)
        go_wp2_with fail
        refine (of_any x.1 x.2 y.1 y.2 p.1 p.2 _ CD.out.1.1 CD.out.1.2 CD.out.2.1.1 CD.out.2.1.2 CD.out.2.2.1 CD.out.2.2.2).mono ?_
        rintro e w1 ⟨rfl, H1⟩
        have N1 : Hid (New wr w1) := (((New.refl wr).alloc' _).alloc' _).trans' H1.out
        have k1 : w1.heap[wr.heap.size]? = some (.cells #[.int .i64 y.1, .int .i64 y.2] 36 (0, 0)) := (H1.out.block _ (by simp; omega) (by simp)).trans (twoA' wr _ _)
        have k2 : w1.heap[wr.heap.size + 1]? = some (.cells #[.int .i64 x.1, .int .i64 x.2] 36 (0, 0)) := (H1.out.block _ (by simp) (by simp)).trans (twoB' wr _ _)
        have q4 : w1.cell? ⟨w.heap.size, 0, none⟩ = some (.int .i64 p.1) := N1.out.kept p0
        have q5 : w1.cell? ⟨w.heap.size, 1, none⟩ = some (.int .i64 p.2) := N1.out.kept p1
        have q0 := pair_cell0 k1
        have q1 := pair_cell1 k1
        have q2 := pair_cell0 k2
        have q3 := pair_cell1 k2
        have f1 := fun o => pair_free (o := o) k1
        have f2 := fun o => pair_free (o := o) k2
        have n1 : w.heap.size ≠ wr.heap.size := by omega
        have n2 : w.heap.size ≠ wr.heap.size + 1 := by omega
        have HK : Hid (w1.heap[wr.heap.size]? = some (.cells #[.int .i64 y.1, .int .i64 y.2] 36 (0, 0)) ∧ w1.heap[wr.heap.size + 1]? = some (.cells #[.int .i64 x.1, .int .i64 x.2] 36 (0, 0))) := ⟨k1, k2⟩
        clear H1 a0 a1 b0 b1 p0 p1 k1 k2
        go_wp2_with fail
        refine (add_any b (n + 3 * k) _ x y p _ (H.out.map.new N1.out) (by omega) CD.out.1 CD.out.2.1 CD.out.2.2).mono ?_
        rintro e w2 ⟨rfl, A2⟩
        have H2 : Hid (JL w w2 b n line p m (k + 1)) := H.out.next HM.out A2.out.1 ((N1.out.but (some b)).trans A2.out.2) hbw
        clear A2 q0 q1 q2 q3 q4 q5 f1 f2
        go_wp2_with fail
        go_roundw
        case rel => exact ⟨k + 1, by go_num, by omega, H2⟩
        case measure => simp [intOf]; omega
    · have e : k = N - 1 := by omega
      subst e
      go_wp2_with fail
      go_end0
      exact ⟨rfl, H.out.map, H.out.gr⟩

end Go.Proofs.YtgeoffpcmkofkaaGreat
/- What the sweep makes of points in their order, over whole numbers. -/
namespace Go.Proofs.YtgeoffpcmkofkaaGreat

section
variable {line : Pts} {p : Pt}
/-- Points in a line, one beside it. -/
structure Lined (line : Pts) (p : Pt) : Prop where
  rising : Rising line
  two : 2 ≤ line.length
  flat : ∀ x ∈ line, ∀ y ∈ line, ∀ z ∈ line, D x y z = 0
  beside : D (ptAt line 0) (ptAt line 1) p ≠ 0

theorem ptAt_mem {l : Pts} {i : Nat} (h : i < l.length) : ptAt l i ∈ l := by rw [ptAt_eq h]; exact List.getElem_mem h
theorem ptAt_get {l : Pts} {i : Nat} (h : i < l.length) : l[i]? = some (ptAt l i) := by rw [ptAt_eq h]; exact List.getElem?_eq_getElem h

theorem Lined.sides (h : Lined line p) {x z : Pt} (hx : x ∈ line) (hz : z ∈ line) : (K (ptAt line 1) - K (ptAt line 0)) * D x z p = D (ptAt line 0) (ptAt line 1) p * (K z - K x) ∧ 0 < K (ptAt line 1) - K (ptAt line 0) := by
  have h2 := h.two
  have m0 := ptAt_mem (l := line) (i := 0) (by omega)
  have m1 := ptAt_mem (l := line) (i := 1) (by omega)
  have k := h.rising 0 1 _ _ (ptAt_get (by omega)) (ptAt_get (by omega)) (by omega)
  have e1 := K_along (z := p) (h.flat _ m0 _ m1 _ hz)
  have e2 := K_along (z := p) (h.flat _ m0 _ m1 _ hx)
  have s := D_sum (ptAt line 0) x z p
  rw [h.flat _ m0 _ hx _ hz] at s
  have sw : D z (ptAt line 0) p = -D (ptAt line 0) z p := D_swap' _ _ _
  refine ⟨?_, by omega⟩
  have e3 : D x z p = D (ptAt line 0) z p - D (ptAt line 0) x p := by omega
  rw [e3]
  grind

/-- The line's steps, so that the point lies to their left. -/
def Turn (line : Pts) (p : Pt) (x y : Pt) : Prop := (0 < D (ptAt line 0) (ptAt line 1) p ∧ Nx line x y) ∨ (D (ptAt line 0) (ptAt line 1) p < 0 ∧ Nx line y x)

theorem Lined.pos (h : Lined line p) {x z : Pt} (hx : x ∈ line) (hz : z ∈ line) (hd : 0 < D (ptAt line 0) (ptAt line 1) p) : (0 < D x z p ↔ K x < K z) ∧ (0 ≤ D x z p ↔ K x ≤ K z) ∧ (D x z p = 0 ↔ K x = K z) := by
  obtain ⟨e, k⟩ := h.sides hx hz
  rcases Int.lt_trichotomy (K x) (K z) with c | c | c
  · have := Int.mul_pos hd (show 0 < K z - K x by omega)
    have := pos_of_mul k (x := D x z p) (by omega)
    omega
  · have e0 : D (ptAt line 0) (ptAt line 1) p * (K z - K x) = 0 := by rw [c]; simp
    rw [e0] at e
    have := mul_eq_zero' e (by omega)
    omega
  · have := Int.mul_pos hd (show 0 < K x - K z by omega)
    have e2 : D (ptAt line 0) (ptAt line 1) p * (K x - K z) = -(D (ptAt line 0) (ptAt line 1) p * (K z - K x)) := by grind
    have := neg_of_mul k (x := D x z p) (by omega)
    omega
theorem Lined.neg (h : Lined line p) {x z : Pt} (hx : x ∈ line) (hz : z ∈ line) (hd : D (ptAt line 0) (ptAt line 1) p < 0) : (0 < D x z p ↔ K z < K x) ∧ (0 ≤ D x z p ↔ K z ≤ K x) ∧ (D x z p = 0 ↔ K x = K z) := by
  obtain ⟨e, k⟩ := h.sides hx hz
  rcases Int.lt_trichotomy (K x) (K z) with c | c | c
  · have := Int.mul_pos (show 0 < -D (ptAt line 0) (ptAt line 1) p by omega) (show 0 < K z - K x by omega)
    have e2 : -D (ptAt line 0) (ptAt line 1) p * (K z - K x) = -(D (ptAt line 0) (ptAt line 1) p * (K z - K x)) := by grind
    have := neg_of_mul k (x := D x z p) (by omega)
    omega
  · have e0 : D (ptAt line 0) (ptAt line 1) p * (K z - K x) = 0 := by rw [c]; simp
    rw [e0] at e
    have := mul_eq_zero' e (by omega)
    omega
  · have := Int.mul_pos (show 0 < -D (ptAt line 0) (ptAt line 1) p by omega) (show 0 < K x - K z by omega)
    have e2 : -D (ptAt line 0) (ptAt line 1) p * (K x - K z) = D (ptAt line 0) (ptAt line 1) p * (K z - K x) := by grind
    have := pos_of_mul k (x := D x z p) (by omega)
    omega

theorem Lined.row (h : Lined line p) : Row line p (Turn line p) := by
  have h2 := h.two
  have hoff : p ∉ line := fun hp => h.beside (h.flat _ (ptAt_mem (by omega)) _ (ptAt_mem (by omega)) _ hp)
  rcases Int.lt_or_gt_of_ne h.beside with hd | hd
  · have iff : ∀ x y, Turn line p x y ↔ Nx line y x := fun x y => ⟨fun k => by rcases k with ⟨k, _⟩ | ⟨_, k⟩; omega; exact k, fun k => .inr ⟨hd, k⟩⟩
    refine ⟨?_, ?_, ?_, ?_, ?_, ?_, h.flat, hoff⟩
    · intro x y k
      rw [iff] at k
      have m := nx_mem k
      exact ⟨m.2, m.1, (h.neg m.2 m.1 hd).1.2 (h.rising.nx_lt k)⟩
    · intro x y k z hz
      rw [iff] at k
      have m := nx_mem k
      rcases h.rising.nx_gap k hz with c | c
      · exact .inr ((h.neg m.1 hz hd).2.1.2 c)
      · exact .inl ((h.neg hz m.2 hd).2.1.2 c)
    · intro x y y' k k'
      rw [iff] at k k'
      exact h.rising.nx_inj k k'
    · intro x x' y k k'
      rw [iff] at k k'
      exact h.rising.nx_fun k k'
    · intro x hx z hz k
      have := (h.neg hx hz hd).1.1 k
      obtain ⟨⟨y, hy⟩, y', hy'⟩ := h.rising.nx_ex hz hx this
      exact ⟨⟨y', (iff _ _).2 hy'⟩, y, (iff _ _).2 hy⟩
    · intro x hx z hz k
      exact h.rising.inj hx hz ((h.neg hx hz hd).2.2.1 k)
  · have iff : ∀ x y, Turn line p x y ↔ Nx line x y := fun x y => ⟨fun k => by rcases k with ⟨_, k⟩ | ⟨k, _⟩; exact k; omega, fun k => .inl ⟨hd, k⟩⟩
    refine ⟨?_, ?_, ?_, ?_, ?_, ?_, h.flat, hoff⟩
    · intro x y k
      rw [iff] at k
      have m := nx_mem k
      exact ⟨m.1, m.2, (h.pos m.1 m.2 hd).1.2 (h.rising.nx_lt k)⟩
    · intro x y k z hz
      rw [iff] at k
      have m := nx_mem k
      rcases h.rising.nx_gap k hz with c | c
      · exact .inl ((h.pos hz m.1 hd).2.1.2 c)
      · exact .inr ((h.pos m.2 hz hd).2.1.2 c)
    · intro x y y' k k'
      rw [iff] at k k'
      exact h.rising.nx_fun k k'
    · intro x x' y k k'
      rw [iff] at k k'
      exact h.rising.nx_inj k k'
    · intro x hx z hz k
      have := (h.pos hx hz hd).1.1 k
      obtain ⟨⟨y, hy⟩, y', hy'⟩ := h.rising.nx_ex hx hz this
      exact ⟨⟨y, (iff _ _).2 hy⟩, y', (iff _ _).2 hy'⟩
    · intro x hx z hz k
      exact h.rising.inj hx hz ((h.pos hx hz hd).2.2.1 k)

/-- The first k steps. -/
def TurnK (line : Pts) (p : Pt) (k : Nat) (x y : Pt) : Prop := ∃ i, i < k ∧ i + 1 < line.length ∧ ((0 < D (ptAt line 0) (ptAt line 1) p ∧ x = ptAt line i ∧ y = ptAt line (i + 1)) ∨ (D (ptAt line 0) (ptAt line 1) p < 0 ∧ y = ptAt line i ∧ x = ptAt line (i + 1)))
theorem Lined.turnK (_h : Lined line p) {x y : Pt} : TurnK line p (line.length - 1) x y ↔ Turn line p x y := by
  unfold TurnK Turn Nx
  constructor
  · rintro ⟨i, h1, h2, ⟨h3, rfl, rfl⟩ | ⟨h3, rfl, rfl⟩⟩
    · exact .inl ⟨h3, i, ptAt_get (by omega), ptAt_get h2⟩
    · exact .inr ⟨h3, i, ptAt_get (by omega), ptAt_get h2⟩
  · rintro (⟨h3, i, h4, h5⟩ | ⟨h3, i, h4, h5⟩)
    · have l1 := (List.getElem?_eq_some_iff.1 h5).1
      rw [ptAt_get (by omega)] at h4 h5
      injection h4 with h4; injection h5 with h5
      exact ⟨i, by omega, l1, .inl ⟨h3, h4.symm, h5.symm⟩⟩
    · have l1 := (List.getElem?_eq_some_iff.1 h5).1
      rw [ptAt_get (by omega)] at h4 h5
      injection h4 with h4; injection h5 with h5
      exact ⟨i, by omega, l1, .inr ⟨h3, h4.symm, h5.symm⟩⟩
theorem Lined.ptAt_inj (h : Lined line p) {i j : Nat} (hi : i < line.length) (hj : j < line.length) (e : ptAt line i = ptAt line j) : i = j :=
  (h.rising.idx (ptAt_get hi) (ptAt_get hj)).2.1 (by rw [e])

theorem Lined.fanK (h : Lined line p) : ∀ k, k + 1 ≤ line.length → Fan (TurnK line p k) p (joinN line p (fun _ => none) k)
  | 0, _ => by
    intro u v w
    constructor
    · intro k; cases k
    · rintro (⟨⟨i, k, _⟩, _⟩ | ⟨_, i, k, _⟩ | ⟨_, i, k, _⟩) <;> omega
  | k + 1, hk => by
    have ih := h.fanK k (by omega)
    have hoff := h.row.off
    have mk : ptAt line k ∈ line := ptAt_mem (by omega)
    have mk1 : ptAt line (k + 1) ∈ line := ptAt_mem (by omega)
    have n1 : ptAt line k ≠ p := fun e => hoff (e ▸ mk)
    have n2 : ptAt line (k + 1) ≠ p := fun e => hoff (e ▸ mk1)
    have n3 : ptAt line k ≠ ptAt line (k + 1) := fun e => by have := h.ptAt_inj (by omega) (by omega) e; omega
    have hlt := h.rising k (k + 1) _ _ (ptAt_get (by omega)) (ptAt_get (by omega)) (by omega)
    -- the new triangle's corners x, y
    obtain ⟨x, y, e, hxp, hyp, hxy, hT, hold1, hold2⟩ : ∃ x y, joinN line p (fun _ => none) (k + 1) = addM (joinN line p (fun _ => none) k) x y p ∧ x ≠ p ∧ y ≠ p ∧ x ≠ y ∧ (∀ a c, TurnK line p (k + 1) a c ↔ TurnK line p k a c ∨ (a = x ∧ c = y)) ∧ (∀ c, ¬TurnK line p k x c) ∧ (∀ c, ¬TurnK line p k c y) := by
      rcases Int.lt_or_gt_of_ne h.beside with hd | hd
      · refine ⟨ptAt line (k + 1), ptAt line k, ?_, n2, n1, fun e => n3 e.symm, fun a c => ?_, fun c => ?_, fun c => ?_⟩
        · show joinF p _ _ _ = _
          rw [joinF, if_pos]
          have := (h.neg mk1 mk hd).1.2 hlt
          rw [D_swap'] at this; omega
        · constructor
          · rintro ⟨i, h1, h2, h3⟩
            rcases Nat.lt_or_ge i k with c1 | c1
            · exact .inl ⟨i, c1, h2, h3⟩
            · have e : i = k := by omega
              subst e
              rcases h3 with ⟨h3, _⟩ | ⟨_, h4, h5⟩
              · omega
              · exact .inr ⟨h5, h4⟩
          · rintro (⟨i, h1, h2, h3⟩ | ⟨h1, h2⟩)
            · exact ⟨i, by omega, h2, h3⟩
            · exact ⟨k, by omega, by omega, .inr ⟨hd, h2, h1⟩⟩
        · rintro ⟨i, h1, h2, ⟨h3, _⟩ | ⟨_, h4, h5⟩⟩
          · omega
          · have := h.ptAt_inj (by omega) h2 h5; omega
        · rintro ⟨i, h1, h2, ⟨h3, _⟩ | ⟨_, h4, h5⟩⟩
          · omega
          · have := h.ptAt_inj (by omega) (by omega) h4; omega
      · refine ⟨ptAt line k, ptAt line (k + 1), ?_, n1, n2, n3, fun a c => ?_, fun c => ?_, fun c => ?_⟩
        · show joinF p _ _ _ = _
          rw [joinF, if_neg]
          have := (h.pos mk mk1 hd).1.2 hlt
          omega
        · constructor
          · rintro ⟨i, h1, h2, h3⟩
            rcases Nat.lt_or_ge i k with c1 | c1
            · exact .inl ⟨i, c1, h2, h3⟩
            · have e : i = k := by omega
              subst e
              rcases h3 with ⟨_, h4, h5⟩ | ⟨h3, _⟩
              · exact .inr ⟨h4, h5⟩
              · omega
          · rintro (⟨i, h1, h2, h3⟩ | ⟨h1, h2⟩)
            · exact ⟨i, by omega, h2, h3⟩
            · exact ⟨k, by omega, by omega, .inl ⟨hd, h1, h2⟩⟩
        · rintro ⟨i, h1, h2, ⟨_, h4, h5⟩ | ⟨h3, _⟩⟩
          · have := h.ptAt_inj (by omega) (by omega) h4; omega
          · omega
        · rintro ⟨i, h1, h2, ⟨_, h4, h5⟩ | ⟨h3, _⟩⟩
          · have := h.ptAt_inj (by omega) h2 h5; omega
          · omega
    intro u v w
    have hmem : ∀ {a c : Pt}, TurnK line p k a c → a ∈ line ∧ c ∈ line := by
      rintro a c ⟨i, _, h2, ⟨_, rfl, rfl⟩ | ⟨_, rfl, rfl⟩⟩
      · exact ⟨ptAt_mem (by omega), ptAt_mem h2⟩
      · exact ⟨ptAt_mem h2, ptAt_mem (by omega)⟩
    rw [e, addM_eq]
    simp only [hT, Prod.mk.injEq]
    by_cases c1 : u = p ∧ v = x
    · rw [if_pos c1]
      obtain ⟨rfl, rfl⟩ := c1
      constructor
      · intro k; injection k with k; exact .inr (.inr ⟨rfl, .inr ⟨rfl, k.symm⟩⟩)
      · rintro (⟨k | k, _⟩ | ⟨k, _⟩ | ⟨_, k | k⟩)
        · exact absurd (hmem k).1 hoff
        · exact absurd k.1.symm hxp
        · exact absurd k hxp
        · exact absurd k (hold1 _)
        · rw [k.2]
    · rw [if_neg c1]
      by_cases c2 : u = y ∧ v = p
      · rw [if_pos c2]
        obtain ⟨rfl, rfl⟩ := c2
        constructor
        · intro k; injection k with k; exact .inr (.inl ⟨rfl, .inr ⟨k.symm, rfl⟩⟩)
        · rintro (⟨k | k, _⟩ | ⟨_, k | k⟩ | ⟨k, _⟩)
          · exact absurd (hmem k).2 hoff
          · exact absurd k.2.symm hyp
          · exact absurd k (hold2 _)
          · rw [k.1]
          · exact absurd k hyp
      · rw [if_neg c2]
        by_cases c3 : u = x ∧ v = y
        · rw [if_pos c3]
          obtain ⟨rfl, rfl⟩ := c3
          constructor
          · intro k; injection k with k; exact .inl ⟨.inr ⟨rfl, rfl⟩, k.symm⟩
          · rintro (⟨_, k⟩ | ⟨k, _⟩ | ⟨k, _⟩)
            · rw [k]
            · exact absurd k hyp
            · exact absurd k hxp
        · rw [if_neg c3, ih]
          constructor
          · rintro (⟨k, k'⟩ | ⟨k, k'⟩ | ⟨k, k'⟩)
            · exact .inl ⟨.inl k, k'⟩
            · exact .inr (.inl ⟨k, .inl k'⟩)
            · exact .inr (.inr ⟨k, .inl k'⟩)
          · rintro (⟨k | k, k'⟩ | ⟨k, k' | k'⟩ | ⟨k, k' | k'⟩)
            · exact .inl ⟨k, k'⟩
            · exact absurd k c3
            · exact .inr (.inl ⟨k, k'⟩)
            · exact absurd ⟨k'.2, k⟩ c2
            · exact .inr (.inr ⟨k, k'⟩)
            · exact absurd ⟨k, k'.1⟩ c1

theorem Lined.fan (h : Lined line p) : Fan (Turn line p) p (joinN line p (fun _ => none) (line.length - 1)) := by
  have := h.fanK (line.length - 1) (by have := h.two; omega)
  intro u v w
  rw [this u v w]
  simp only [h.turnK]
theorem Lined.ok (h : Lined line p) : Ok (line ++ [p]) (joinN line p (fun _ => none) (line.length - 1)) ∧ Corners (line ++ [p]) (joinN line p (fun _ => none) (line.length - 1)) := by
  have h2 := h.two
  refine ⟨fan_ok h.row h.fan, fan_corners h.row h.fan (ptAt_mem (i := 0) (by omega)) (ptAt_mem (i := 1) (by omega)) fun e => ?_⟩
  have := h.ptAt_inj (by omega) (by omega) e
  omega
end

end Go.Proofs.YtgeoffpcmkofkaaGreat
