/- Sa; Sb; Sc; Sd: texts laid into one. -/
import Derived.Test.YtgeoffpcmkofkaaGreatQam
import Derived.Test.YtgeoffpcmkofkaaGreatQae
/- What the law Tiled asks of an answer holds of it, over whole numbers. -/
namespace Go.Proofs.YtgeoffpcmkofkaaGreat
open Go.RowKit Go.Maps Fl
set_option maxRecDepth 100000

/-- All points lie in a line. -/
def Flat (l : Pts) : Prop := ∀ i k : Nat, 1 ≤ k → k < i → i < l.length → D (ptAt l 0) (ptAt l k) (ptAt l i) = 0
theorem mem_ptAt {l : Pts} {x : Pt} (h : x ∈ l) : ∃ i, i < l.length ∧ x = ptAt l i := by
  obtain ⟨i, hi⟩ := List.mem_iff_getElem?.1 h
  have hl := (List.getElem?_eq_some_iff.1 hi).1
  exact ⟨i, hl, by rw [ptAt_get hl] at hi; injection hi with hi; exact hi.symm⟩
theorem Flat.all {l : Pts} (h : Flat l) {x y z : Pt} (hx : x ∈ l) (hy : y ∈ l) (hz : z ∈ l) : D x y z = 0 := by
  have key : ∀ i k : Nat, i < l.length → k < l.length → D (ptAt l 0) (ptAt l k) (ptAt l i) = 0 := by
    intro i k hi hk
    rcases Nat.eq_zero_or_pos k with rfl | k0
    · exact D_same0 _ _
    · rcases Nat.eq_zero_or_pos i with rfl | i0
      · exact D_same1 _ _
      · rcases Nat.lt_trichotomy k i with c | c | c
        · exact h i k k0 c hi
        · subst c; exact D_same2 _ _
        · rw [D_flip, h k i i0 c hk]; rfl
  obtain ⟨i, hi, rfl⟩ := mem_ptAt hx
  obtain ⟨j, hj, rfl⟩ := mem_ptAt hy
  obtain ⟨k, hk, rfl⟩ := mem_ptAt hz
  have s := D_sum (ptAt l i) (ptAt l j) (ptAt l k) (ptAt l 0)
  have e1 := D_turn' (ptAt l i) (ptAt l j) (ptAt l 0)
  have e2 := D_turn' (ptAt l j) (ptAt l k) (ptAt l 0)
  have e3 := D_turn' (ptAt l k) (ptAt l i) (ptAt l 0)
  rw [key j i hj hi] at e1
  rw [key k j hk hj] at e2
  rw [key i k hi hk] at e3
  omega

/-- How often a directed side is one of a triangle. -/
def sideOf (u v : Int) (t : Tri3) : Nat := (if t.1 = u ∧ t.2.1 = v then 1 else 0) + (if t.2.1 = u ∧ t.2.2 = v then 1 else 0) + (if t.2.2 = u ∧ t.1 = v then 1 else 0)
def cntS (L : List Tri3) (u v : Int) : Nat := (L.map (sideOf u v)).sum

theorem sum_zero {α : Type} {f : α → Nat} : ∀ {L : List α}, (∀ t ∈ L, f t = 0) → (L.map f).sum = 0
  | [], _ => rfl
  | a :: L, h => by
    rw [List.map_cons, List.sum_cons, h a (by simp), sum_zero fun t ht => h t (by simp [ht])]
theorem sum_one {α : Type} {f : α → Nat} : ∀ {L : List α}, L.Nodup → (∀ t ∈ L, f t ≤ 1) → (∀ t ∈ L, ∀ t' ∈ L, 1 ≤ f t → 1 ≤ f t' → t = t') → (L.map f).sum ≤ 1 ∧ ((∃ t ∈ L, 1 ≤ f t) → (L.map f).sum = 1)
  | [], _, _, _ => ⟨by simp, fun ⟨t, h, _⟩ => by simp at h⟩
  | a :: L, hn, h1, h2 => by
    rw [List.nodup_cons] at hn
    have ih := sum_one hn.2 (fun t ht => h1 t (by simp [ht])) (fun t ht t' ht' => h2 t (by simp [ht]) t' (by simp [ht']))
    have ha := h1 a (by simp)
    rw [List.map_cons, List.sum_cons]
    rcases Nat.eq_zero_or_pos (f a) with e | e
    · rw [e, Nat.zero_add]
      refine ⟨ih.1, fun ⟨t, ht, k⟩ => ?_⟩
      rcases List.mem_cons.1 ht with rfl | ht
      · omega
      · exact ih.2 ⟨t, ht, k⟩
    · have z : (L.map f).sum = 0 := sum_zero fun t ht => by
        rcases Nat.eq_zero_or_pos (f t) with q | q
        · exact q
        · have := h2 a (by simp) t (by simp [ht]) e q
          exact absurd (this ▸ ht) hn.1
      rw [z]
      omega

/-- All that Tiled asks, in numbers. -/
structure Good (l : Pts) (L : List Tri3) : Prop where
  tri : ∀ t ∈ L, ∃ a b c : Nat, t = ((a : Int), (b : Int), (c : Int)) ∧ a < b ∧ a < c ∧ b < l.length ∧ c < l.length ∧ (∀ j, j < a → ptAt l j ≠ ptAt l a) ∧ (∀ j, j < b → ptAt l j ≠ ptAt l b) ∧ (∀ j, j < c → ptAt l j ≠ ptAt l c) ∧ 0 < D (ptAt l a) (ptAt l b) (ptAt l c) ∧ ∀ j, j < l.length → C (ptAt l a) (ptAt l b) (ptAt l c) (ptAt l j) ≤ 0
  pw : L.Pairwise fun x y => cmpT x y < 0
  flat : Flat l → L = []
  ne : ¬Flat l → L ≠ []
  le : ∀ u v, cntS L u v ≤ 1
  one : ∀ t ∈ L, ∀ u v, 1 ≤ sideOf u v t → cntS L u v = 1
  hull : ∀ t ∈ L, ∀ u v : Nat, 1 ≤ sideOf u v t → cntS L v u = 0 → ∀ j, j < l.length → D (ptAt l v) (ptAt l u) (ptAt l j) ≤ 0
  corner : ¬Flat l → ∀ i, i < l.length → (∀ j, j < i → ptAt l j ≠ ptAt l i) → ∃ t ∈ L, t.1 = i ∨ t.2.1 = i ∨ t.2.2 = i

section
variable {l s : Pts} {L : List Tri3} {M : Ms}
/-- The mesh behind an answer. -/
structure Behind (l s : Pts) (M : Ms) (L : List Tri3) : Prop where
  dis : IsDis l s
  ok : Ok s M
  tri : IsTri M (numN l l.length) L
theorem nr_nat {x : Pt} (hx : x ∈ l) : ∃ i : Nat, i < l.length ∧ nr l x = (i : Int) ∧ ptAt l i = x ∧ ∀ j, j < i → ptAt l j ≠ ptAt l i := by
  obtain ⟨i, h1, h2, h3, h4⟩ := nr_spec hx
  have e : ptAt l i = x := by rw [ptAt_get h1] at h3; injection h3
  refine ⟨i, h1, h2, e, fun j hj k => h4 j hj ?_⟩
  rw [ptAt_get (by omega), k, e]
theorem Behind.tri_ex (h : Behind l s M L) {t : Tri3} (ht : t ∈ L) : ∃ a b c : Pt, M (a, b) = some c ∧ t = (nr l a, nr l b, nr l c) ∧ nr l a < nr l b ∧ nr l a < nr l c ∧ a ∈ l ∧ b ∈ l ∧ c ∈ l := by
  obtain ⟨e, c, hm, ht, hlt⟩ := (h.tri.iff t).1 ht
  have m := h.ok.mem e.1 e.2 c hm
  subst ht
  simp only [triAt] at hlt
  exact ⟨e.1, e.2, c, hm, rfl, by change nr l e.1 < min (nr l e.2) (nr l c) at hlt; omega, by change nr l e.1 < min (nr l e.2) (nr l c) at hlt; omega, (h.dis.mem _).1 m.1, (h.dis.mem _).1 m.2.1, (h.dis.mem _).1 m.2.2⟩
theorem Behind.apart (h : Behind l s M L) {a b c : Pt} (hm : M (a, b) = some c) : nr l a ≠ nr l b ∧ nr l b ≠ nr l c ∧ nr l a ≠ nr l c ∧ a ∈ l ∧ b ∈ l ∧ c ∈ l := by
  have m := h.ok.mem a b c hm
  have p := h.ok.pos a b c hm
  have ma := (h.dis.mem _).1 m.1
  have mb := (h.dis.mem _).1 m.2.1
  have mc := (h.dis.mem _).1 m.2.2
  exact ⟨fun e => ne_of_D (c := c) (by omega) (nr_inj ma mb e), fun e => ne_of_D2 (a := a) (by omega) (nr_inj mb mc e), fun e => ne_of_D' (b := b) (by omega) (nr_inj ma mc e), ma, mb, mc⟩
/-- The triangle of a side. -/
theorem Behind.tri_of (h : Behind l s M L) {a b c : Pt} (hm : M (a, b) = some c) : ∃ t ∈ L, 1 ≤ sideOf (nr l a) (nr l b) t ∧ (t = (nr l a, nr l b, nr l c) ∨ t = (nr l b, nr l c, nr l a) ∨ t = (nr l c, nr l a, nr l b)) := by
  obtain ⟨n1, n2, n3, _⟩ := h.apart hm
  have h2 := h.ok.rot _ _ _ hm
  have h3 := h.ok.rot' hm
  have mk : ∀ {x y z : Pt}, M (x, y) = some z → nr l x < nr l y → nr l x < nr l z → (nr l x, nr l y, nr l z) ∈ L := fun {x y z} hm k1 k2 => (h.tri.iff _).2 ⟨(x, y), z, hm, rfl, by change nr l x < min (nr l y) (nr l z); omega⟩
  rcases Int.lt_or_gt_of_ne n1 with k1 | k1
  · rcases Int.lt_or_gt_of_ne n3 with k2 | k2
    · exact ⟨_, mk hm k1 k2, by simp [sideOf]; omega, .inl rfl⟩
    · exact ⟨_, mk h3 k2 (by omega), by simp [sideOf]; omega, .inr (.inr rfl)⟩
  · rcases Int.lt_or_gt_of_ne n2 with k2 | k2
    · exact ⟨_, mk h2 k2 k1, by simp [sideOf], .inr (.inl rfl)⟩
    · exact ⟨_, mk h3 (by omega) k2, by simp [sideOf]; omega, .inr (.inr rfl)⟩
/-- A triangle's side is one of the mesh. -/
theorem Behind.side_ex (h : Behind l s M L) {t : Tri3} (ht : t ∈ L) {u v : Int} (hs : 1 ≤ sideOf u v t) : sideOf u v t = 1 ∧ t.1 < t.2.1 ∧ t.1 < t.2.2 ∧ ∃ x y z : Pt, M (x, y) = some z ∧ u = nr l x ∧ v = nr l y ∧ (t = (nr l x, nr l y, nr l z) ∨ t = (nr l y, nr l z, nr l x) ∨ t = (nr l z, nr l x, nr l y)) := by
  obtain ⟨a, b, c, hm, rfl, k1, k2, _⟩ := h.tri_ex ht
  obtain ⟨n1, n2, n3, _⟩ := h.apart hm
  have h2 := h.ok.rot _ _ _ hm
  have h3 := h.ok.rot' hm
  unfold sideOf at hs ⊢
  simp only at hs ⊢
  by_cases c1 : nr l a = u ∧ nr l b = v
  · refine ⟨?_, k1, k2, a, b, c, hm, c1.1.symm, c1.2.symm, .inl rfl⟩
    rw [if_pos c1, if_neg (by omega), if_neg (by omega)]
  · by_cases c2 : nr l b = u ∧ nr l c = v
    · refine ⟨?_, k1, k2, b, c, a, h2, c2.1.symm, c2.2.symm, .inr (.inr rfl)⟩
      rw [if_neg c1, if_pos c2, if_neg (by omega)]
    · by_cases c3 : nr l c = u ∧ nr l a = v
      · refine ⟨?_, k1, k2, c, a, b, h3, c3.1.symm, c3.2.symm, .inr (.inl rfl)⟩
        rw [if_neg c1, if_neg c2, if_pos c3]
      · rw [if_neg c1, if_neg c2, if_neg c3] at hs
        omega
theorem Behind.cnt (h : Behind l s M L) (u v : Int) : cntS L u v ≤ 1 ∧ ((∃ t ∈ L, 1 ≤ sideOf u v t) → cntS L u v = 1) := by
  refine sum_one h.tri.nd (fun t ht => ?_) fun t ht t' ht' h1 h2 => ?_
  · rcases Nat.eq_zero_or_pos (sideOf u v t) with e | e
    · omega
    · rw [(h.side_ex ht e).1]; omega
  · obtain ⟨_, p1, p2, x, y, z, hm, e1, e2, e3⟩ := h.side_ex ht h1
    obtain ⟨_, q1, q2, x', y', z', hm', e1', e2', e3'⟩ := h.side_ex ht' h2
    obtain ⟨_, _, _, mx, my, _⟩ := h.apart hm
    obtain ⟨_, _, _, mx', my', _⟩ := h.apart hm'
    have hx := nr_inj mx mx' (by omega)
    have hy := nr_inj my my' (by omega)
    subst hx hy
    rw [hm] at hm'
    injection hm' with hz
    subst hz
    rcases e3 with rfl | rfl | rfl <;> rcases e3' with rfl | rfl | rfl <;> first | rfl | (simp only at p1 p2 q1 q2; omega)
end

theorem answer_good {l : Pts} {L : List Tri3} (h : Answer l L) : Good l L := by
  obtain ⟨s, hd, ht⟩ := h.is
  obtain ⟨n, hn⟩ := line_exists s
  have hB : Behind l s (settledM s (meshOf s)) L := ⟨hd, settled_is s hd.rising, ht⟩
  have hin : ∀ {j : Nat}, j < l.length → ptAt l j ∈ s := fun hj => (hd.mem _).2 (ptAt_mem hj)
  -- flat just where all lie in the line of the first two
  have hflat : Flat l ↔ n = s.length := by
    constructor
    · intro hf
      rcases Nat.lt_or_ge n s.length with k | k
      · exfalso
        have h2 := (hn.begun hd.rising k).two
        exact hn.stop k (hf.all ((hd.mem _).1 (ptAt_mem (by omega))) ((hd.mem _).1 (ptAt_mem (by omega))) ((hd.mem _).1 (ptAt_mem k)))
      · have := hn.le; omega
    · intro e i k _ _ hi
      have onl : ∀ x ∈ s, D (ptAt s 0) (ptAt s 1) x = 0 := by
        intro x hx
        obtain ⟨j, hj, rfl⟩ := mem_ptAt hx
        exact hn.line j (by omega)
      rcases Nat.lt_or_ge s.length 2 with q | q
      · have all : ∀ x ∈ s, ∀ y ∈ s, x = y := by
          intro x hx y hy
          obtain ⟨a, ha, rfl⟩ := mem_ptAt hx
          obtain ⟨b, hb, rfl⟩ := mem_ptAt hy
          rw [show a = b by omega]
        rw [all _ (hin (show 0 < l.length by omega)) _ (hin (show k < l.length by omega)), D_same0]
      · have ne : ptAt s 0 ≠ ptAt s 1 := by
          intro e
          have := hd.rising 0 1 _ _ (ptAt_get (by omega)) (ptAt_get (by omega)) (by omega)
          rw [e] at this
          omega
        exact line3 ne (onl _ (hin (by omega))) (onl _ (hin (by omega))) (onl _ (hin hi))
  have hempty : n = s.length → L = [] := by
    intro e
    rcases meshOf_ok hn hd.rising with k | k
    · have hM : settledM s (meshOf s) = fun _ => none := by
        rw [k.2]
        have : keysL s (fun _ => none) = [] := by unfold keysL; simp
        unfold settledM
        rw [this, steps_nil rfl]
      apply List.eq_nil_iff_forall_not_mem.2
      intro t htl
      obtain ⟨e, c, hm, _⟩ := (ht.iff t).1 htl
      rw [hM] at hm
      cases hm
    · omega
  have hfull : n ≠ s.length → Corners s (settledM s (meshOf s)) ∧ ∀ e, wrong (settledM s (meshOf s)) e = false := by
    intro e
    rcases meshOf_ok hn hd.rising with k | k
    · exact absurd k.1 e
    · exact (settledM_ok hd.rising.nodup k.2.2.1 k.2.2.2).2
  have hcor : ¬Flat l → ∀ i, i < l.length → (∀ j, j < i → ptAt l j ≠ ptAt l i) → ∃ t ∈ L, t.1 = i ∨ t.2.1 = i ∨ t.2.2 = i := by
    intro hf i hi hfirst
    obtain ⟨hco, _⟩ := hfull (fun e => hf (hflat.2 e))
    obtain ⟨y, hy⟩ := hco _ (hin hi)
    obtain ⟨z, hz⟩ := isSome_get hy
    obtain ⟨t, ht1, _, ht2⟩ := hB.tri_of hz
    obtain ⟨j, _, e1, e2, e3⟩ := nr_nat (ptAt_mem hi)
    have hij : j = i := by
      rcases Nat.lt_trichotomy j i with c | c | c
      · exact absurd e2 (hfirst j c)
      · exact c
      · exact absurd e2.symm (e3 i c)
    subst hij
    refine ⟨t, ht1, ?_⟩
    rcases ht2 with rfl | rfl | rfl
    · exact .inl e1
    · exact .inr (.inr e1)
    · exact .inr (.inl e1)
  refine ⟨fun t htl => ?_, ?_, fun hf => hempty (hflat.1 hf), fun hf => ?_, fun u v => (hB.cnt u v).1, fun t htl u v hs => (hB.cnt u v).2 ⟨t, htl, hs⟩, fun t htl u v hs h0 j hj => ?_, hcor⟩
  · have hnf : n ≠ s.length := fun e => by rw [hempty e] at htl; simp at htl
    obtain ⟨a, b, c, hm, rfl, k1, k2, ma, mb, mc⟩ := hB.tri_ex htl
    obtain ⟨ia, la, ea, pa, fa⟩ := nr_nat ma
    obtain ⟨ib, lb, eb, pb, fb⟩ := nr_nat mb
    obtain ⟨ic, lc, ec, pc, fc⟩ := nr_nat mc
    refine ⟨ia, ib, ic, by rw [ea, eb, ec], by omega, by omega, lb, lc, fa, fb, fc, ?_, fun j hj => ?_⟩
    · rw [pa, pb, pc]; exact hB.ok.pos a b c hm
    · rw [pa, pb, pc]; exact empty_all hB.ok (hfull hnf).2 hm (hin hj)
  · have key : ∀ {K : List Tri3}, K.Nodup → K.Pairwise (fun x y => ltOf cmpT y x = false) → K.Pairwise fun x y => cmpT x y < 0 := by
      intro K hk hp
      induction K with
      | nil => exact .nil
      | cons a K ih =>
        rw [List.nodup_cons] at hk
        rw [List.pairwise_cons] at hp ⊢
        refine ⟨fun b hb => ?_, ih hk.2 hp.2⟩
        have q := (ltOf_not _ _ _).1 (hp.1 b hb)
        have hne : a ≠ b := fun e => hk.1 (e ▸ hb)
        rw [cmpT_neg] at q ⊢
        obtain ⟨a1, a2, a3⟩ := a
        obtain ⟨b1, b2, b3⟩ := b
        simp only [ne_eq, Prod.mk.injEq] at hne q ⊢
        omega
    exact key ht.nd ht.pw
  · intro e
    have hne : s.length ≠ 0 := fun h0 => hf (hflat.2 (by have := hn.le; omega))
    have hl : 0 < l.length := by have := hd.len; omega
    obtain ⟨t, ht1, _⟩ := hcor hf 0 hl (fun j hj => by omega)
    rw [e] at ht1
    simp at ht1
  · obtain ⟨_, _, _, x, y, z, hm, e1, e2, _⟩ := hB.side_ex htl hs
    obtain ⟨_, _, _, mx, my, _⟩ := hB.apart hm
    obtain ⟨ix, lx, ex, px, _⟩ := nr_nat mx
    obtain ⟨iy, ly, ey, py, _⟩ := nr_nat my
    have hu : u = ix := by omega
    have hv : v = iy := by omega
    subst hu hv
    rw [px, py]
    have hnone : settledM s (meshOf s) (y, x) = none := by
      cases q : settledM s (meshOf s) (y, x) with
      | none => rfl
      | some c =>
        obtain ⟨t', ht', hs', _⟩ := hB.tri_of q
        have := (hB.cnt (nr l y) (nr l x)).2 ⟨t', ht', hs'⟩
        rw [ey, ex] at this
        omega
    have := hB.ok.hull x y z hm hnone _ (hin hj)
    rw [D_swap']
    omega

end Go.Proofs.YtgeoffpcmkofkaaGreat
/- The walks of 'first' and 'flat' of the law's package. -/
namespace Go.Proofs.YtgeoffpcmkofkaaGreat
open Go.RowKit Go.Maps Fl
set_option maxRecDepth 100000
attribute [local go_sem ↓] Go.wp_at_zero Go.wp_at_succ

theorem pts_cell {w : World} {g : Nat} {l : Pts} (hp : PtsAt w g 0 l) {k : Nat} (hk : k < l.length) : w.cell? ⟨g, k * 2, none⟩ = some (.int .i64 (ptAt l k).1) ∧ w.cell? ⟨g, k * 2 + 1, none⟩ = some (.int .i64 (ptAt l k).2) := by
  have := hp k hk
  rw [Nat.zero_add] at this
  rw [ptAt_eq hk]
  exact this

/-- Points that may be, in block g. -/
structure Lies (w : World) (g : Nat) (l : Pts) : Prop where
  pts : PtsAt w g 0 l
  lt : g < w.heap.size
  cd : ∀ x ∈ l, CdP x
  len : l.length ≤ 40
theorem Lies.new {w w' : World} {g : Nat} {l : Pts} (h : Lies w g l) (hn : New w w') : Lies w' g l := ⟨h.pts.kept h.lt hn, Nat.lt_of_lt_of_le h.lt hn.size, h.cd, h.len⟩
theorem Lies.cdAt {w : World} {g : Nat} {l : Pts} (h : Lies w g l) {k : Nat} (hk : k < l.length) : CdP (ptAt l k) := h.cd _ (ptAt_mem hk)
theorem okB3 {a b c : Pt} (ha : CdP a) (hb : CdP b) (hc : CdP c) : okB [(a.1, a.2), (b.1, b.2), (c.1, c.2)] = true := by
  simp only [okB, List.all_cons, List.all_nil, Bool.and_true, Bool.and_eq_true]
  exact ⟨⟨cdB_iff.2 ha.1, cdB_iff.2 ha.2⟩, ⟨cdB_iff.2 hb.1, cdB_iff.2 hb.2⟩, cdB_iff.2 hc.1, cdB_iff.2 hc.2⟩
theorem okB4 {a b c d : Pt} (ha : CdP a) (hb : CdP b) (hc : CdP c) (hd : CdP d) : okB [(a.1, a.2), (b.1, b.2), (c.1, c.2), (d.1, d.2)] = true := by
  simp only [okB, List.all_cons, List.all_nil, Bool.and_true, Bool.and_eq_true]
  exact ⟨⟨cdB_iff.2 ha.1, cdB_iff.2 ha.2⟩, ⟨cdB_iff.2 hb.1, cdB_iff.2 hb.2⟩, ⟨cdB_iff.2 hc.1, cdB_iff.2 hc.2⟩, cdB_iff.2 hd.1, cdB_iff.2 hd.2⟩

set_option maxHeartbeats 1600000 in
theorem first_any (g cap : Nat) (l : Pts) (i : Nat) (w : World) (hp : Lies w g l) (hi : i < l.length) :
    Calls Tryz.prog 11 #[.slice (some ⟨g, 0, none⟩) l.length cap, .int .i64 (i : Int)] w fun e w' => ∃ r : Nat, e = .returned (.int .i64 (r : Int)) ∧ Hid (New w w' ∧ r ≤ i ∧ (∀ j, j < r → ptAt l j ≠ ptAt l i) ∧ ptAt l r = ptAt l i) := by
  have HP : Hid (Lies w g l) := hp
  have hl := hp.len
  clear hp
  go_enter Tryz.func11, Tryz.ntmps11
  go_wp2_with fail
  go_loopw [5] (fun v wr => ∃ k : Nat, v = .int .i64 (k : Int) ∧ k ≤ i ∧ Hid (New w wr ∧ ∀ j, j < k → ptAt l j ≠ ptAt l i)) (fun v _ => i - (intOf v).toNat)
  case atStart => exact ⟨0, rfl, Nat.zero_le _, New.refl _, fun j h => by omega⟩
  case round =>
    obtain ⟨k, rfl, hk, HR⟩ := hrel
    rcases Nat.lt_or_ge k i with hk' | hk'
    · obtain ⟨x0, x1⟩ := pts_cell (HP.out.new HR.out.1).pts (show k < l.length by omega)
      obtain ⟨y0, y1⟩ := pts_cell (HP.out.new HR.out.1).pts hi
      obtain ⟨p, hp⟩ : ∃ p, p = ptAt l k := ⟨_, rfl⟩
      obtain ⟨q, hq⟩ : ∃ q, q = ptAt l i := ⟨_, rfl⟩
      rw [← hp] at x0 x1
      rw [← hq] at y0 y1
      have HPQ : Hid (p = ptAt l k ∧ q = ptAt l i) := ⟨hp, hq⟩
      clear hp hq
      have i0 : (0 : Int) ≤ (k : Int) := by omega
      have i1 : (k : Int) < (l.length : Int) := by omega
      have i2 : (0 : Int) ≤ (i : Int) := by omega
      have i3 : (i : Int) < (l.length : Int) := by omega
      have i4 : (k : Int) < (i : Int) := by omega
      have hw1 : IntKind.i64.wrap ((k : Int) + 1) = (k : Int) + 1 := by rw [IntKind.wrap_i64]; omega
      have HNE : Hid (∀ j, p ≠ q → j < k + 1 → ptAt l j ≠ ptAt l i) := fun j hne hj => by
        rcases Nat.lt_or_ge j k with c | c
        · exact HR.out.2 j c
        · rw [show j = k by omega, ← HPQ.out.1, ← HPQ.out.2]; exact hne
      by_cases h1 : p.1 = q.1
      · by_cases h2 : p.2 = q.2
        · have HE : Hid (ptAt l k = ptAt l i) := by rw [Hid, ← HPQ.out.1, ← HPQ.out.2]; exact pt_ext h1 h2
          go_wp2_with fail
          go_quiet (fail)
          go_wp2_with fail
          go_ret
          exact ⟨k, rfl, HR.out.1.drewN _, by omega, HR.out.2, HE.out⟩
        · have HE : Hid (∀ j, j < k + 1 → ptAt l j ≠ ptAt l i) := fun j hj => HNE.out j (fun e => h2 (by rw [e])) hj
          go_wp2_with fail
          go_quiet (fail)
          go_wp2_with fail
          go_roundw
          case rel => exact ⟨k + 1, by go_num, hk', HR.out.1.drewN _, HE.out⟩
          case measure => simp [intOf]; omega
      · have HE : Hid (∀ j, j < k + 1 → ptAt l j ≠ ptAt l i) := fun j hj => HNE.out j (fun e => h1 (by rw [e])) hj
        go_wp2_with fail
        go_quiet (fail)
        go_wp2_with fail
        go_roundw
        case rel => exact ⟨k + 1, by go_num, hk', HR.out.1.drewN _, HE.out⟩
        case measure => simp [intOf]; omega
    · have e : k = i := by omega
      subst e
      go_wp2_with fail
      go_ret
      exact ⟨k, rfl, HR.out.1, Nat.le_refl _, HR.out.2, rfl⟩

/-- Up to there they lie in a line. -/
def FlatTo (l : Pts) (i k : Nat) : Prop := ∀ i' k' : Nat, 1 ≤ k' → k' < i' → i' < l.length → (i' < i ∨ i' = i ∧ k' < k) → D (ptAt l 0) (ptAt l k') (ptAt l i') = 0

set_option maxHeartbeats 1600000 in
theorem flat_any (g cap : Nat) (l : Pts) (w : World) (hp : Lies w g l) :
    Calls Tryz.prog 9 #[.slice (some ⟨g, 0, none⟩) l.length cap] w fun e w' => ∃ r : Bool, e = .returned (.bool r) ∧ Hid (New w w' ∧ (r = true ↔ Flat l)) := by
  have HP : Hid (Lies w g l) := hp
  have hl := hp.len
  clear hp
  go_enter Tryz.func9, Tryz.ntmps9
  go_wp2_with fail
  go_loopw [3] (fun v wr => ∃ i : Nat, v = .int .i64 (i : Int) ∧ 1 ≤ i ∧ i ≤ l.length + 1 ∧ Hid (New w wr ∧ FlatTo l i 0)) (fun v _ => l.length + 1 - (intOf v).toNat)
  case atStart => exact ⟨1, rfl, by omega, by omega, New.refl _, fun i' k' h1 h2 h3 h4 => by omega⟩
  case round =>
    obtain ⟨i, rfl, hi1, hi2, HR⟩ := hrel
    rcases Nat.lt_or_ge i l.length with hi | hi
    · have i0 : (i : Int) < (l.length : Int) := by omega
      have hw1 : IntKind.i64.wrap ((i : Int) + 1) = (i : Int) + 1 := by rw [IntKind.wrap_i64]; omega
      generalize wr = ws at *
      go_wp2_with fail
      go_loopw [4] (fun v wr => ∃ k : Nat, v = .int .i64 (k : Int) ∧ 1 ≤ k ∧ k ≤ i ∧ Hid (New w wr ∧ FlatTo l i k)) (fun v _ => i - (intOf v).toNat)
      case atStart => exact ⟨1, rfl, by omega, by omega, HR.out.1, fun i' k' h1 h2 h3 h4 => HR.out.2 i' k' h1 h2 h3 (by omega)⟩
      case round =>
        obtain ⟨k, rfl, hk1, hk2, HK⟩ := hrel
        rcases Nat.lt_or_ge k i with hk | hk
        · have HL : Hid (Lies wr g l) := HP.out.new HK.out.1
          obtain ⟨a0, a1⟩ := pts_cell HL.out.pts (show 0 < l.length by omega)
          obtain ⟨b0, b1⟩ := pts_cell HL.out.pts (show k < l.length by omega)
          obtain ⟨c0, c1⟩ := pts_cell HL.out.pts hi
          have CA : Hid (CdP (ptAt l 0) ∧ CdP (ptAt l k) ∧ CdP (ptAt l i)) := ⟨HL.out.cdAt (by omega), HL.out.cdAt (by omega), HL.out.cdAt hi⟩
          obtain ⟨pa, ha⟩ : ∃ pa, pa = ptAt l 0 := ⟨_, rfl⟩
          obtain ⟨pb, hb⟩ : ∃ pb, pb = ptAt l k := ⟨_, rfl⟩
          obtain ⟨pc, hc⟩ : ∃ pc, pc = ptAt l i := ⟨_, rfl⟩
          rw [← ha] at a0 a1
          rw [← hb] at b0 b1
          rw [← hc] at c0 c1
          rw [← ha, ← hb, ← hc] at CA
          have HE : Hid (pa = ptAt l 0 ∧ pb = ptAt l k ∧ pc = ptAt l i) := ⟨ha, hb, hc⟩
          clear ha hb hc
          simp only [Nat.zero_mul, Nat.zero_add] at a0 a1
          have j0 : (0 : Int) ≤ (i : Int) := by omega
          have j1 : (0 : Int) ≤ (k : Int) := by omega
          have j2 : (k : Int) < (l.length : Int) := by omega
          have j3 : (0 : Int) < (l.length : Int) := by omega
          have j4 : (k : Int) < (i : Int) := by omega
          have j5 : 0 < l.length := by omega
          have hw2 : IntKind.i64.wrap ((k : Int) + 1) = (k : Int) + 1 := by rw [IntKind.wrap_i64]; omega
          have KS : Hid (∀ V, New wr V → V.cell? ⟨g, 0, none⟩ = some (.int .i64 pa.1) ∧ V.cell? ⟨g, 1, none⟩ = some (.int .i64 pa.2) ∧ V.cell? ⟨g, k * 2, none⟩ = some (.int .i64 pb.1) ∧ V.cell? ⟨g, k * 2 + 1, none⟩ = some (.int .i64 pb.2) ∧ V.cell? ⟨g, i * 2, none⟩ = some (.int .i64 pc.1) ∧ V.cell? ⟨g, i * 2 + 1, none⟩ = some (.int .i64 pc.2)) := fun V hV => ⟨hV.kept a0, hV.kept a1, hV.kept b0, hV.kept b1, hV.kept c0, hV.kept c1⟩
          have CN : Hid (New wr wr.drew) := (New.refl wr).dr
          go_wp2_with fail
          go_region_held3 (fun V => V.cell? ⟨g, 0, none⟩ = some (.int .i64 pa.1) ∧ V.cell? ⟨g, 1, none⟩ = some (.int .i64 pa.2) ∧ V.cell? ⟨g, k * 2, none⟩ = some (.int .i64 pb.1) ∧ V.cell? ⟨g, k * 2 + 1, none⟩ = some (.int .i64 pb.2) ∧ V.cell? ⟨g, i * 2, none⟩ = some (.int .i64 pc.1) ∧ V.cell? ⟨g, i * 2 + 1, none⟩ = some (.int .i64 pc.2))
            (exact KS.out _ CN.out)
            (first | (go_at_call 20; refine (kside_any pa.1 pa.2 pb.1 pb.2 pc.1 pc.2 _ (okB3 CA.out.1 CA.out.2.1 CA.out.2.2)).mono ?_; rintro e w1 ⟨rfl, H1⟩; replace CN : Hid (New wr w1) := CN.out.trans' H1.out; clear H1))
          clear a0 a1 b0 b1 c0 c1
          by_cases hd : sgn (det pa.1 pa.2 pb.1 pb.2 pc.1 pc.2) = 0
          · have HD : Hid (FlatTo l i (k + 1)) := fun i' k' h1 h2 h3 h4 => by
              by_cases e : i' = i ∧ k' = k
              · rw [e.1, e.2, ← HE.out.1, ← HE.out.2.1, ← HE.out.2.2]
                exact sgn_zero.1 hd
              · exact HK.out.2 i' k' h1 h2 h3 (by omega)
            go_wp2_with fail
            go_roundw
            case rel => exact ⟨k + 1, by go_num, by omega, by omega, HK.out.1.trans' CN.out, HD.out⟩
            case measure => simp [intOf]; omega
          · have HD : Hid (¬Flat l) := fun hf => hd (sgn_zero.2 (by
              have := hf i k hk1 hk hi
              rw [← HE.out.1, ← HE.out.2.1, ← HE.out.2.2] at this
              exact this))
            go_wp2_with fail
            go_ret
            exact ⟨false, rfl, HK.out.1.trans' CN.out, by simp; exact HD.out⟩
        · have e : k = i := by omega
          have HF : Hid (FlatTo l (i + 1) 0) := fun i' k' h1 h2 h3 h4 => HK.out.2 i' k' h1 h2 h3 (by omega)
          subst e
          go_wp2_with fail
          go_roundw
          case rel => exact ⟨k + 1, by go_num, by omega, by omega, HK.out.1, HF.out⟩
          case measure => simp [intOf]; omega
    · have HF : Hid (Flat l) := fun i' k' h1 h2 h3 => HR.out.2 i' k' h1 h2 h3 (by omega)
      go_wp2_with fail
      go_ret
      exact ⟨true, rfl, HR.out.1, by simp; exact HF.out⟩

end Go.Proofs.YtgeoffpcmkofkaaGreat
/- The walk of 'proper' of the law's package. -/
namespace Go.Proofs.YtgeoffpcmkofkaaGreat
open Go.RowKit Go.Maps Fl
set_option maxRecDepth 100000
attribute [local go_sem ↓] Go.wp_at_zero Go.wp_at_succ

def triN (L : List Tri3) (i : Nat) : Tri3 := L.getD i (0, 0, 0)
theorem triN_eq {L : List Tri3} {i : Nat} (h : i < L.length) : triN L i = L[i] := by simp [triN, h]
theorem triN_mem {L : List Tri3} {i : Nat} (h : i < L.length) : triN L i ∈ L := by rw [triN_eq h]; exact List.getElem_mem h
theorem flat3_get : ∀ (l : List Tri3) (i : Nat) (h : i < l.length), (l.flatMap encT)[i * 3]? = some (.int .i64 l[i].1) ∧ (l.flatMap encT)[i * 3 + 1]? = some (.int .i64 l[i].2.1) ∧ (l.flatMap encT)[i * 3 + 2]? = some (.int .i64 l[i].2.2)
  | [], i, h => by simp at h
  | p :: l, 0, h => ⟨rfl, rfl, rfl⟩
  | p :: l, i + 1, h => by
    have := flat3_get l i (by simpa using h)
    have e1 : (i + 1) * 3 = i * 3 + 1 + 1 + 1 := by omega
    rw [e1]
    simpa [encT] using this
theorem OwnT.cell {w : World} {base gt cap : Nat} {L : List Tri3} (h : OwnT w base (.slice (some ⟨gt, 0, none⟩) L.length cap) L) {i : Nat} (hi : i < L.length) :
    w.cell? ⟨gt, i * 3, none⟩ = some (.int .i64 (triN L i).1) ∧ w.cell? ⟨gt, i * 3 + 1, none⟩ = some (.int .i64 (triN L i).2.1) ∧ w.cell? ⟨gt, i * 3 + 2, none⟩ = some (.int .i64 (triN L i).2.2) := by
  have f := flat3_get L i hi
  rw [triN_eq hi]
  exact ⟨(World.ownsRow.cellAt h _ (by omega)).trans f.1, (World.ownsRow.cellAt h _ (by omega)).trans f.2.1, (World.ownsRow.cellAt h _ (by omega)).trans f.2.2⟩

theorem first_is (g cap : Nat) (l : Pts) (i : Nat) (w : World) (hp : Lies w g l) (hi : i < l.length) (hf : ∀ j, j < i → ptAt l j ≠ ptAt l i) :
    Calls Tryz.prog 11 #[.slice (some ⟨g, 0, none⟩) l.length cap, .int .i64 (i : Int)] w fun e w' => e = .returned (.int .i64 (i : Int)) ∧ Hid (New w w') := by
  refine (first_any g cap l i w hp hi).mono ?_
  rintro e w' ⟨r, rfl, h⟩
  obtain ⟨h1, h2, h3, h4⟩ := h.out
  have : r = i := by
    rcases Nat.lt_or_ge r i with c | c
    · exact absurd h4 (hf r c)
    · omega
  rw [this]
  exact ⟨rfl, h1⟩

/-- What stands there while the law reads. -/
structure Both (w : World) (g : Nat) (l : Pts) (base gt cap : Nat) (L : List Tri3) : Prop where
  lies : Lies w g l
  own : OwnT w base (.slice (some ⟨gt, 0, none⟩) L.length cap) L
  good : Good l L
  len : L.length ≤ 1000000
theorem Both.new {w w' : World} {g : Nat} {l : Pts} {base gt cap : Nat} {L : List Tri3} (h : Both w g l base gt cap L) (hn : New w w') : Both w' g l base gt cap L := ⟨h.lies.new hn, h.own.new hn, h.good, h.len⟩

set_option maxHeartbeats 6400000 in
theorem proper_some (g cap : Nat) (l : Pts) (base gt ct : Nat) (L : List Tri3) (w : World) (h : Both w g l base gt ct L) :
    Calls Tryz.prog 8 #[.slice (some ⟨g, 0, none⟩) l.length cap, .slice (some ⟨gt, 0, none⟩) L.length ct] w fun e w' => e = .returned (.bool true) ∧ Hid (New w w') := by
  have HB : Hid (Both w g l base gt ct L) := h
  have hl := h.lies.len
  have hL := h.len
  clear h
  go_enter Tryz.func8, Tryz.ntmps8
  go_wp2_with fail
  go_loopw [5] (fun v wr => ∃ i : Nat, v = .int .i64 (i : Int) ∧ i ≤ L.length ∧ Hid (New w wr)) (fun v _ => L.length - (intOf v).toNat)
  case atStart => exact ⟨0, rfl, Nat.zero_le _, New.refl _⟩
  case round =>
    obtain ⟨i, rfl, hi, HR⟩ := hrel
    rcases Nat.lt_or_ge i L.length with hi' | hi'
    · have HBr : Hid (Both wr g l base gt ct L) := HB.out.new HR.out
      obtain ⟨t0, t1, t2⟩ := HBr.out.own.cell hi'
      obtain ⟨a, b, c, et, hab, hac, hb, hc, fa, fb, fc, hD, _⟩ := HBr.out.good.tri _ (triN_mem hi')
      have HT : Hid (triN L i = ((a : Int), (b : Int), (c : Int))) := et
      rw [et] at t0 t1 t2
      simp only at t0 t1 t2
      have HF : Hid ((∀ j, j < a → ptAt l j ≠ ptAt l a) ∧ (∀ j, j < b → ptAt l j ≠ ptAt l b) ∧ (∀ j, j < c → ptAt l j ≠ ptAt l c)) := ⟨fa, fb, fc⟩
      have HD : Hid (sgn (det (ptAt l a).1 (ptAt l a).2 (ptAt l b).1 (ptAt l b).2 (ptAt l c).1 (ptAt l c).2) = 1) := by
        rcases sgn_cases (D (ptAt l a) (ptAt l b) (ptAt l c)) with k | k | k
        · omega
        · omega
        · exact k.2
      have hal : a < l.length := by omega
      clear et fa fb fc hD
      have i0 : (0 : Int) ≤ (i : Int) := by omega
      have i1 : (i : Int) < (L.length : Int) := by omega
      have hw1 : IntKind.i64.wrap ((i : Int) + 1) = (i : Int) + 1 := by rw [IntKind.wrap_i64]; omega
      go_wp2_with fail
      obtain ⟨W, hW⟩ : ∃ W, W = wr.alloc (.cells #[.int .i64 (a : Int), .int .i64 (b : Int), .int .i64 (c : Int)] 33) := ⟨_, rfl⟩
      have x0 : W.cell? ⟨wr.heap.size, 0, none⟩ = some (.int .i64 (a : Int)) := by rw [hW]; go_simp
      have x1 : W.cell? ⟨wr.heap.size, 1, none⟩ = some (.int .i64 (b : Int)) := by rw [hW]; go_simp
      have x2 : W.cell? ⟨wr.heap.size, 2, none⟩ = some (.int .i64 (c : Int)) := by rw [hW]; go_simp
      have HW : Hid (New wr W) := by rw [hW]; exact New.alloc _ _
      rw [← hW]
      clear hW t0 t1 t2
      have KX : Hid (∀ V, New W V → V.cell? ⟨wr.heap.size, 0, none⟩ = some (.int .i64 (a : Int)) ∧ V.cell? ⟨wr.heap.size, 1, none⟩ = some (.int .i64 (b : Int)) ∧ V.cell? ⟨wr.heap.size, 2, none⟩ = some (.int .i64 (c : Int))) := fun V hV => ⟨hV.kept x0, hV.kept x1, hV.kept x2⟩
      have CN : Hid (New W W.drew) := (New.refl W).dr
      have F1 : Hid (0 ≤ 0) := Nat.le_refl _
      have F2 : Hid (0 ≤ 0) := Nat.le_refl _
      have n1 : ¬(a : Int) < 0 := by omega
      have n2 : ¬(b : Int) ≤ (a : Int) := by omega
      have n3 : ¬(c : Int) ≤ (a : Int) := by omega
      have n4 : ¬(l.length : Int) ≤ (b : Int) := by omega
      have n5 : ¬(l.length : Int) ≤ (c : Int) := by omega
      go_region_held3 (fun V => V.cell? ⟨wr.heap.size, 0, none⟩ = some (.int .i64 (a : Int)) ∧ V.cell? ⟨wr.heap.size, 1, none⟩ = some (.int .i64 (b : Int)) ∧ V.cell? ⟨wr.heap.size, 2, none⟩ = some (.int .i64 (c : Int)))
        (exact KX.out _ CN.out)
        (first
          | (go_at_call 11; clear F1; refine (first_is g cap l a _ (HBr.out.lies.new (HW.out.trans' CN.out)) hal HF.out.1).mono ?_; rintro e w1 ⟨rfl, H1⟩; replace CN : Hid (New W w1) := CN.out.trans' H1.out; clear H1)
          | (go_at_call 11; clear F2; refine (first_is g cap l b _ (HBr.out.lies.new (HW.out.trans' CN.out)) hb HF.out.2.1).mono ?_; rintro e w2 ⟨rfl, H1⟩; replace CN : Hid (New W w2) := CN.out.trans' H1.out; clear H1)
          | (go_at_call 11; refine (first_is g cap l c _ (HBr.out.lies.new (HW.out.trans' CN.out)) hc HF.out.2.2).mono ?_; rintro e w3 ⟨rfl, H1⟩; replace CN : Hid (New W w3) := CN.out.trans' H1.out; clear H1))
      clear n1 n2 n3 n4 n5 x0 x1 x2
      obtain ⟨w3, hw3⟩ : ∃ W3, W3 = w3 := ⟨_, rfl⟩
      rw [← hw3]
      rw [← hw3] at CN
      clear hw3
      obtain ⟨x0, x1, x2⟩ := KX.out _ CN.out
      have HB3 : Hid (Both w3 g l base gt ct L ∧ New wr w3) := ⟨HBr.out.new (HW.out.trans' CN.out), HW.out.trans' CN.out⟩
      obtain ⟨a0, a1⟩ := pts_cell HB3.out.1.lies.pts hal
      obtain ⟨b0, b1⟩ := pts_cell HB3.out.1.lies.pts hb
      obtain ⟨c0, c1⟩ := pts_cell HB3.out.1.lies.pts hc
      have CA : Hid (CdP (ptAt l a) ∧ CdP (ptAt l b) ∧ CdP (ptAt l c)) := ⟨HB3.out.1.lies.cdAt hal, HB3.out.1.lies.cdAt hb, HB3.out.1.lies.cdAt hc⟩
      obtain ⟨pa, ha⟩ : ∃ pa, pa = ptAt l a := ⟨_, rfl⟩
      obtain ⟨pb, hb'⟩ : ∃ pb, pb = ptAt l b := ⟨_, rfl⟩
      obtain ⟨pc, hc'⟩ : ∃ pc, pc = ptAt l c := ⟨_, rfl⟩
      rw [← ha] at a0 a1
      rw [← hb'] at b0 b1
      rw [← hc'] at c0 c1
      rw [← ha, ← hb', ← hc'] at CA HD
      have hd1 := HD.out
      clear ha hb' hc' KX HF
      have m0 : (0 : Int) ≤ (a : Int) := by omega
      have m1 : (a : Int) < (l.length : Int) := by omega
      have m2 : (0 : Int) ≤ (b : Int) := by omega
      have m3 : (b : Int) < (l.length : Int) := by omega
      have m4 : (0 : Int) ≤ (c : Int) := by omega
      have m5 : (c : Int) < (l.length : Int) := by omega
      have KS : Hid (∀ V, New w3 V → V.cell? ⟨wr.heap.size, 0, none⟩ = some (.int .i64 (a : Int)) ∧ V.cell? ⟨wr.heap.size, 1, none⟩ = some (.int .i64 (b : Int)) ∧ V.cell? ⟨wr.heap.size, 2, none⟩ = some (.int .i64 (c : Int)) ∧ V.cell? ⟨g, a * 2, none⟩ = some (.int .i64 pa.1) ∧ V.cell? ⟨g, a * 2 + 1, none⟩ = some (.int .i64 pa.2) ∧ V.cell? ⟨g, b * 2, none⟩ = some (.int .i64 pb.1) ∧ V.cell? ⟨g, b * 2 + 1, none⟩ = some (.int .i64 pb.2) ∧ V.cell? ⟨g, c * 2, none⟩ = some (.int .i64 pc.1) ∧ V.cell? ⟨g, c * 2 + 1, none⟩ = some (.int .i64 pc.2)) := fun V hV => ⟨hV.kept x0, hV.kept x1, hV.kept x2, hV.kept a0, hV.kept a1, hV.kept b0, hV.kept b1, hV.kept c0, hV.kept c1⟩
      clear CN
      have CN : Hid (New w3 w3.drew) := (New.refl w3).dr
      go_wp2_with fail
      go_region_held3 (fun V => V.cell? ⟨wr.heap.size, 0, none⟩ = some (.int .i64 (a : Int)) ∧ V.cell? ⟨wr.heap.size, 1, none⟩ = some (.int .i64 (b : Int)) ∧ V.cell? ⟨wr.heap.size, 2, none⟩ = some (.int .i64 (c : Int)) ∧ V.cell? ⟨g, a * 2, none⟩ = some (.int .i64 pa.1) ∧ V.cell? ⟨g, a * 2 + 1, none⟩ = some (.int .i64 pa.2) ∧ V.cell? ⟨g, b * 2, none⟩ = some (.int .i64 pb.1) ∧ V.cell? ⟨g, b * 2 + 1, none⟩ = some (.int .i64 pb.2) ∧ V.cell? ⟨g, c * 2, none⟩ = some (.int .i64 pc.1) ∧ V.cell? ⟨g, c * 2 + 1, none⟩ = some (.int .i64 pc.2))
        (exact KS.out _ CN.out)
        (first | (go_at_call 20; refine (kside_any pa.1 pa.2 pb.1 pb.2 pc.1 pc.2 _ (okB3 CA.out.1 CA.out.2.1 CA.out.2.2)).mono ?_; rintro e w4 ⟨rfl, H1⟩; replace CN : Hid (New w3 w4) := CN.out.trans' H1.out; clear H1))
      clear a0 a1 b0 b1 c0 c1 x0 x1 x2
      obtain ⟨w4, hw4⟩ : ∃ W4, W4 = w4 := ⟨_, rfl⟩
      rw [← hw4]
      rw [← hw4] at CN
      clear hw4
      obtain ⟨x0, x1, x2, _⟩ := KS.out _ CN.out
      have HB4 : Hid (Both w4 g l base gt ct L ∧ New wr w4) := ⟨HB3.out.1.new CN.out, HB3.out.2.trans' CN.out⟩
      clear KS CN HB3
      rcases Nat.eq_zero_or_pos i with i00 | i00
      · subst i00
        go_wp2_with fail
        go_roundw
        case rel => exact ⟨1, by go_num, by omega, HR.out.trans' HB4.out.2⟩
        case measure => simp [intOf]; omega
      · obtain ⟨j, hj⟩ : ∃ j, i = j + 1 := ⟨i - 1, by omega⟩
        obtain ⟨t0, t1, t2⟩ := HB4.out.1.own.cell (show j < L.length by omega)
        obtain ⟨a', b', c', et, _⟩ := HB4.out.1.good.tri _ (triN_mem (show j < L.length by omega))
        have hlt : cmpT (triN L j) (triN L i) < 0 := by
          rw [triN_eq (by omega), triN_eq hi']
          exact (List.pairwise_iff_getElem.1 HB4.out.1.good.pw) j i (by omega) hi' (by omega)
        rw [HT.out, et, cmpT_neg] at hlt
        simp only at hlt
        rw [et] at t0 t1 t2
        simp only at t0 t1 t2
        clear et
        have hw2 : IntKind.i64.wrap ((i : Int) - 1) = (j : Int) := by rw [IntKind.wrap_i64]; omega
        have q0 : (0 : Int) ≤ (j : Int) := by omega
        have q1 : (j : Int) < (L.length : Int) := by omega
        have q2 : (0 : Int) < (i : Int) := by omega
        clear hj
        have lx : wr.heap.size < w4.heap.size := World.block_lt_of_cell? w4 _ x0
        have HN5 : Hid (∀ o, New w (w4.alloc o)) := fun o => (HR.out.trans' HB4.out.2).alloc' o
        rcases hlt with k | ⟨k, k2 | ⟨k2, k3⟩⟩
        · have r1 : ¬(a : Int) < (a' : Int) := by omega
          have r2 : ¬(a' : Int) = (a : Int) := by omega
          clear k
          go_wp2_with fail
          go_roundw
          case rel => exact ⟨i + 1, by go_num, by omega, HN5.out _⟩
          case measure => simp [intOf]; omega
        · have e1 : a' = a := by omega
          subst e1
          have r3 : ¬(b : Int) < (b' : Int) := by omega
          have r4 : ¬(b' : Int) = (b : Int) := by omega
          clear k k2
          go_wp2_with fail
          go_roundw
          case rel => exact ⟨i + 1, by go_num, by omega, HN5.out _⟩
          case measure => simp [intOf]; omega
        · have e1 : a' = a := by omega
          have e2 : b' = b := by omega
          subst e1 e2
          have r5 : ¬(c : Int) ≤ (c' : Int) := by omega
          clear k k2 k3
          go_wp2_with fail
          go_roundw
          case rel => exact ⟨i + 1, by go_num, by omega, HN5.out _⟩
          case measure => simp [intOf]; omega
    · go_wp2_with fail
      go_ret
      exact ⟨rfl, HR.out⟩

theorem proper_none (v0 : Value) (w : World) (p : Option Addr) (ct : Nat) :
    Calls Tryz.prog 8 #[v0, .slice p 0 ct] w fun e w' => e = .returned (.bool true) ∧ Hid (New w w') := by
  go_enter Tryz.func8, Tryz.ntmps8
  go_wp2_with fail
  go_loop [5] (fun v => v = .int .i64 0) (fun _ => 0)
  case atStart => rfl
  case round =>
    subst hrel
    go_wp2_with fail
    go_ret
    exact ⟨rfl, New.refl _⟩

end Go.Proofs.YtgeoffpcmkofkaaGreat
/- The walks of 'corners', 'sides' and 'filled' of the law's package. -/
namespace Go.Proofs.YtgeoffpcmkofkaaGreat
open Go.RowKit Go.Maps Fl
set_option maxRecDepth 100000
attribute [local go_sem ↓] Go.wp_at_zero Go.wp_at_succ

/-- A triangle's corners, round and round. -/
def cr (t : Tri3) : Nat → Int
  | 0 => t.1
  | 1 => t.2.1
  | 2 => t.2.2
  | _ => t.1
def CrAt (w : World) (gc : Nat) (t : Tri3) : Prop := ∀ j, j < 4 → w.cell? ⟨gc, j, none⟩ = some (.int .i64 (cr t j))
theorem CrAt.new {w w' : World} {gc : Nat} {t : Tri3} (h : CrAt w gc t) (hn : New w w') : CrAt w' gc t := fun j hj => hn.kept (h j hj)

theorem corners_any (t : Tri3) (w : World) : Calls Tryz.prog 21 #[.agg #[.int .i64 t.1, .int .i64 t.2.1, .int .i64 t.2.2]] w fun e w' => ∃ gc, e = .returned (.slice (some ⟨gc, 0, none⟩) 4 4) ∧ Hid (New w w' ∧ CrAt w' gc t) := by
  go_enter Tryz.func21, Tryz.ntmps21
  go_wp2_with fail
  go_ret
  refine ⟨_, rfl, ((New.refl w).alloc' _).alloc' _, fun j hj => ?_⟩
  match j, hj with
  | 0, _ => simp only [cr]; go_simp
  | 1, _ => simp only [cr]; go_simp
  | 2, _ => simp only [cr]; go_simp
  | 3, _ => simp only [cr]; go_simp

/-- Of the first k sides of a triangle. -/
def sideK (u v : Int) (t : Tri3) : Nat → Nat
  | 0 => 0
  | k + 1 => sideK u v t k + (if cr t k = u ∧ cr t (k + 1) = v then 1 else 0)
theorem sideK_three (u v : Int) (t : Tri3) : sideK u v t 3 = sideOf u v t := by
  simp [sideK, sideOf, cr]
theorem sideK_le (u v : Int) (t : Tri3) : ∀ k, sideK u v t k ≤ k
  | 0 => Nat.le_refl _
  | k + 1 => by
    have := sideK_le u v t k
    unfold sideK
    split <;> omega
theorem cntS_take (L : List Tri3) (u v : Int) {i : Nat} (h : i < L.length) : cntS (L.take (i + 1)) u v = cntS (L.take i) u v + sideOf u v (triN L i) := by
  have e : L.take (i + 1) = L.take i ++ [L[i]] := by rw [List.take_add_one, List.getElem?_eq_getElem h]; rfl
  unfold cntS
  rw [e, List.map_append, List.sum_append, triN_eq h]
  rfl
theorem cntS_le (L : List Tri3) (u v : Int) : cntS L u v ≤ L.length * 3 := by
  induction L with
  | nil => simp [cntS]
  | cons t L ih =>
    unfold cntS at ih ⊢
    have := sideK_le u v t 3
    rw [sideK_three] at this
    simp only [List.map_cons, List.sum_cons, List.length_cons]
    omega

set_option maxHeartbeats 1600000 in
theorem sides_some (base gt ct : Nat) (L : List Tri3) (u v : Int) (w : World) (ho : OwnT w base (.slice (some ⟨gt, 0, none⟩) L.length ct) L) (hL : L.length ≤ 1000000) :
    Calls Tryz.prog 22 #[.slice (some ⟨gt, 0, none⟩) L.length ct, .int .i64 u, .int .i64 v] w fun e w' => e = .returned (.int .i64 (cntS L u v : Int)) ∧ Hid (New w w') := by
  have HO : Hid (OwnT w base (.slice (some ⟨gt, 0, none⟩) L.length ct) L) := ho
  clear ho
  go_enter Tryz.func22, Tryz.ntmps22
  go_wp2_with fail
  go_loopw [7, 8] (fun vn vi wr => ∃ i n : Nat, vi = .int .i64 (i : Int) ∧ vn = .int .i64 (n : Int) ∧ i ≤ L.length ∧ n ≤ 3 * i ∧ Hid (New w wr ∧ n = cntS (L.take i) u v)) (fun _ vi _ => L.length - (intOf vi).toNat)
  case atStart => exact ⟨0, 0, rfl, rfl, Nat.zero_le _, by omega, New.refl _, by simp [cntS]⟩
  case round =>
    obtain ⟨i, n, rfl, rfl, hi, hn, HR⟩ := hrel
    rcases Nat.lt_or_ge i L.length with hi' | hi'
    · obtain ⟨t0, t1, t2⟩ := (HO.out.new HR.out.1).cell hi'
      obtain ⟨t, ht⟩ : ∃ t, t = triN L i := ⟨_, rfl⟩
      rw [← ht] at t0 t1 t2
      have HT : Hid (t = triN L i ∧ i < L.length) := ⟨ht, hi'⟩
      clear ht
      have i0 : (0 : Int) ≤ (i : Int) := by omega
      have i1 : (i : Int) < (L.length : Int) := by omega
      have hw1 : IntKind.i64.wrap ((i : Int) + 1) = (i : Int) + 1 := by rw [IntKind.wrap_i64]; omega
      go_wp2_with fail
      refine (corners_any t _).mono ?_
      rintro e w1 ⟨gc, rfl, H1⟩
      have H1' : Hid (New w w1 ∧ CrAt w1 gc t) := ⟨HR.out.1.trans' H1.out.1, H1.out.2⟩
      clear H1 t0 t1 t2
      go_wp2_with fail
      go_loopw [7, 10] (fun vn vk wr => ∃ k m : Nat, vk = .int .i64 (k : Int) ∧ vn = .int .i64 (m : Int) ∧ k ≤ 3 ∧ m ≤ n + k ∧ Hid (New w1 wr ∧ m = n + sideK u v t k)) (fun _ vk _ => 3 - (intOf vk).toNat)
      case atStart => exact ⟨0, n, rfl, rfl, by omega, by omega, New.refl _, rfl⟩
      case round =>
        obtain ⟨k, m, rfl, rfl, hk, hm, HK⟩ := hrel
        rcases Nat.lt_or_ge k 3 with hk' | hk'
        · have x0 := (H1'.out.2.new HK.out.1) k (by omega)
          have x1 := (H1'.out.2.new HK.out.1) (k + 1) (by omega)
          obtain ⟨p, hp⟩ : ∃ p, p = cr t k := ⟨_, rfl⟩
          obtain ⟨q, hq⟩ : ∃ q, q = cr t (k + 1) := ⟨_, rfl⟩
          rw [← hp] at x0
          rw [← hq] at x1
          have HE : Hid (p = cr t k ∧ q = cr t (k + 1)) := ⟨hp, hq⟩
          clear hp hq
          have j0 : (0 : Int) ≤ (k : Int) := by omega
          have j1 : (k : Int) < 4 := by omega
          have j2 : (k : Int) < 3 := by omega
          have j3 : (k : Int) + 1 < 4 := by omega
          have j4 : (0 : Int) ≤ (k : Int) + 1 := by omega
          have hw2 : IntKind.i64.wrap ((k : Int) + 1) = (k : Int) + 1 := by rw [IntKind.wrap_i64]; omega
          have hw3 : IntKind.i64.wrap ((m : Int) + 1) = (m : Int) + 1 := by rw [IntKind.wrap_i64]; omega
          have htn : ((k : Int) + 1).toNat = k + 1 := by omega
          by_cases e1 : p = u
          · by_cases e2 : q = v
            · have HS : Hid (sideK u v t (k + 1) = sideK u v t k + 1) := by
                rw [Hid, sideK, if_pos ⟨by rw [← HE.out.1, e1], by rw [← HE.out.2, e2]⟩]
              go_wp2_with fail
              go_roundw
              case rel => exact ⟨k + 1, m + 1, by go_num, by go_num, by omega, by omega, HK.out.1, by have := HK.out.2; have := HS.out; omega⟩
              case measure => simp [intOf]; omega
            · have HS : Hid (sideK u v t (k + 1) = sideK u v t k) := by
                rw [Hid, sideK, if_neg (fun c => e2 (by rw [HE.out.2]; exact c.2)), Nat.add_zero]
              go_wp2_with fail
              go_roundw
              case rel => exact ⟨k + 1, m, by go_num, rfl, by omega, by omega, HK.out.1, by have := HK.out.2; have := HS.out; omega⟩
              case measure => simp [intOf]; omega
          · have HS : Hid (sideK u v t (k + 1) = sideK u v t k) := by
              rw [Hid, sideK, if_neg (fun c => e1 (by rw [HE.out.1]; exact c.1)), Nat.add_zero]
            go_wp2_with fail
            go_roundw
            case rel => exact ⟨k + 1, m, by go_num, rfl, by omega, by omega, HK.out.1, by have := HK.out.2; have := HS.out; omega⟩
            case measure => simp [intOf]; omega
        · have hk3 : k = 3 := by omega
          subst hk3
          go_wp2_with fail
          go_roundw
          case rel =>
            refine ⟨i + 1, m, by go_num, rfl, by omega, by omega, H1'.out.1.trans' HK.out.1, ?_⟩
            rw [cntS_take L u v HT.out.2, ← HT.out.1, ← HR.out.2, ← sideK_three]
            exact HK.out.2
          case measure => simp [intOf]; omega
    · have HN : Hid (n = cntS L u v) := by
        have := HR.out.2
        rw [List.take_of_length_le (by omega)] at this
        exact this
      go_wp2_with fail
      go_ret
      exact ⟨by rw [← HN.out]; rfl, HR.out.1⟩

theorem cr_nat {a b c : Nat} {k : Nat} : ∃ x : Nat, cr ((a : Int), (b : Int), (c : Int)) k = (x : Int) ∧ (x = a ∨ x = b ∨ x = c) := by
  match k with
  | 0 => exact ⟨a, rfl, .inl rfl⟩
  | 1 => exact ⟨b, rfl, .inr (.inl rfl)⟩
  | 2 => exact ⟨c, rfl, .inr (.inr rfl)⟩
  | k + 3 => exact ⟨a, rfl, .inl rfl⟩
theorem cr_side (t : Tri3) {k : Nat} (hk : k < 3) : 1 ≤ sideOf (cr t k) (cr t (k + 1)) t := by
  rw [← sideK_three]
  match k, hk with
  | 0, _ => simp [sideK]; omega
  | 1, _ => simp [sideK]; omega
  | 2, _ => simp [sideK]

set_option maxHeartbeats 3200000 in
theorem filled_some (g cap : Nat) (l : Pts) (base gt ct : Nat) (L : List Tri3) (w : World) (h : Both w g l base gt ct L) :
    Calls Tryz.prog 10 #[.slice (some ⟨g, 0, none⟩) l.length cap, .slice (some ⟨gt, 0, none⟩) L.length ct] w fun e w' => e = .returned (.bool true) ∧ Hid (New w w') := by
  have HB : Hid (Both w g l base gt ct L) := h
  have hl := h.lies.len
  have hL := h.len
  clear h
  go_enter Tryz.func10, Tryz.ntmps10
  go_wp2_with fail
  go_loopw [5] (fun v wr => ∃ i : Nat, v = .int .i64 (i : Int) ∧ i ≤ L.length ∧ Hid (New w wr)) (fun v _ => L.length - (intOf v).toNat)
  case atStart => exact ⟨0, rfl, Nat.zero_le _, New.refl _⟩
  case round =>
    obtain ⟨i, rfl, hi, HR⟩ := hrel
    rcases Nat.lt_or_ge i L.length with hi' | hi'
    · obtain ⟨t0, t1, t2⟩ := (HB.out.new HR.out).own.cell hi'
      obtain ⟨t, ht⟩ : ∃ t, t = triN L i := ⟨_, rfl⟩
      rw [← ht] at t0 t1 t2
      have HT : Hid (t ∈ L) := by rw [ht]; exact triN_mem hi'
      clear ht
      have i0 : (0 : Int) ≤ (i : Int) := by omega
      have i1 : (i : Int) < (L.length : Int) := by omega
      have hw1 : IntKind.i64.wrap ((i : Int) + 1) = (i : Int) + 1 := by rw [IntKind.wrap_i64]; omega
      go_wp2_with fail
      refine (corners_any t _).mono ?_
      rintro e w1 ⟨gc, rfl, H1⟩
      have H1' : Hid (New w w1 ∧ CrAt w1 gc t) := ⟨HR.out.trans' H1.out.1, H1.out.2⟩
      clear H1 t0 t1 t2
      go_wp2_with fail
      go_loopw [7] (fun vk wr => ∃ k : Nat, vk = .int .i64 (k : Int) ∧ k ≤ 3 ∧ Hid (New w1 wr)) (fun vk _ => 3 - (intOf vk).toNat)
      case atStart => exact ⟨0, rfl, by omega, New.refl _⟩
      case round =>
        obtain ⟨k, rfl, hk, HK⟩ := hrel
        rcases Nat.lt_or_ge k 3 with hk' | hk'
        · have HBk : Hid (Both wr g l base gt ct L) := HB.out.new (H1'.out.1.trans' HK.out)
          obtain ⟨a, b, c, et, _, _, hbl, hcl, _⟩ := HBk.out.good.tri t HT.out
          have hs := cr_side t hk'
          have x0 := (H1'.out.2.new HK.out) k (by omega)
          have x1 := (H1'.out.2.new HK.out) (k + 1) (by omega)
          obtain ⟨U, hU, hU'⟩ := @cr_nat a b c k
          obtain ⟨V, hV, hV'⟩ := @cr_nat a b c (k + 1)
          rw [← et] at hU hV
          rw [hU, hV] at hs
          rw [hU] at x0
          rw [hV] at x1
          have hUl : U < l.length := by omega
          have hVl : V < l.length := by omega
          have HS : Hid (1 ≤ sideOf (U : Int) (V : Int) t) := hs
          clear hs hU hV hU' hV' et hbl hcl
          have j0 : (0 : Int) ≤ (k : Int) := by omega
          have j1 : (k : Int) < 4 := by omega
          have j2 : (k : Int) < 3 := by omega
          have j3 : (k : Int) + 1 < 4 := by omega
          have j4 : (0 : Int) ≤ (k : Int) + 1 := by omega
          have hw2 : IntKind.i64.wrap ((k : Int) + 1) = (k : Int) + 1 := by rw [IntKind.wrap_i64]; omega
          have htn : ((k : Int) + 1).toNat = k + 1 := by omega
          have c1 : cntS L (U : Int) (V : Int) = 1 := HBk.out.good.one t HT.out _ _ HS.out
          have c2 : cntS L (V : Int) (U : Int) ≤ 1 := HBk.out.good.le _ _
          go_wp2_with fail
          refine (sides_some base gt ct L (U : Int) (V : Int) _ HBk.out.own hL).mono ?_
          rintro e w2 ⟨rfl, H2⟩
          rw [c1]
          go_wp2_with fail
          refine (sides_some base gt ct L (V : Int) (U : Int) _ (HBk.out.own.new H2.out) hL).mono ?_
          rintro e w3 ⟨rfl, H3⟩
          have H3' : Hid (New wr w3 ∧ New w1 w3) := ⟨H2.out.trans' H3.out, HK.out.trans' (H2.out.trans' H3.out)⟩
          clear H2 H3 x0 x1
          have HH : Hid (cntS L (V : Int) (U : Int) = 0 → ∀ j, j < l.length → D (ptAt l V) (ptAt l U) (ptAt l j) ≤ 0) := fun h0 j hj => HBk.out.good.hull t HT.out U V HS.out h0 j hj
          obtain ⟨m, hm⟩ : ∃ m, m = cntS L (V : Int) (U : Int) := ⟨_, rfl⟩
          rw [← hm] at c2 HH
          rw [← hm]
          clear hm c1
          rcases (show m = 0 ∨ m = 1 by omega) with rfl | rfl
          · go_wp2_with fail
            generalize wr = ws at *
            go_loopw [12] (fun v wr => ∃ j : Nat, v = .int .i64 (j : Int) ∧ j ≤ l.length ∧ Hid (New w3 wr)) (fun v _ => l.length - (intOf v).toNat)
            case atStart => exact ⟨0, rfl, Nat.zero_le _, New.refl _⟩
            case round =>
              obtain ⟨j, rfl, hj, HJ⟩ := hrel
              rcases Nat.lt_or_ge j l.length with hj' | hj'
              · have HL : Hid (Lies wr g l) := HBk.out.lies.new (H3'.out.1.trans' HJ.out)
                obtain ⟨a0, a1⟩ := pts_cell HL.out.pts hVl
                obtain ⟨b0, b1⟩ := pts_cell HL.out.pts hUl
                obtain ⟨d0, d1⟩ := pts_cell HL.out.pts hj'
                have CA : Hid (CdP (ptAt l V) ∧ CdP (ptAt l U) ∧ CdP (ptAt l j)) := ⟨HL.out.cdAt hVl, HL.out.cdAt hUl, HL.out.cdAt hj'⟩
                have hd : ¬0 < sgn (D (ptAt l V) (ptAt l U) (ptAt l j)) := by
                  have := HH.out (by first | trivial | rfl | omega) j hj'
                  rw [sgn_pos]
                  omega
                obtain ⟨pa, ha⟩ : ∃ pa, pa = ptAt l V := ⟨_, rfl⟩
                obtain ⟨pb, hb⟩ : ∃ pb, pb = ptAt l U := ⟨_, rfl⟩
                obtain ⟨pc, hc⟩ : ∃ pc, pc = ptAt l j := ⟨_, rfl⟩
                rw [← ha] at a0 a1
                rw [← hb] at b0 b1
                rw [← hc] at d0 d1
                rw [← ha, ← hb, ← hc] at CA hd
                clear ha hb hc
                have hd' : ¬0 < sgn (det pa.1 pa.2 pb.1 pb.2 pc.1 pc.2) := hd
                clear hd
                have m0 : (0 : Int) ≤ (V : Int) := by omega
                have m1 : (V : Int) < (l.length : Int) := by omega
                have m2 : (0 : Int) ≤ (U : Int) := by omega
                have m3 : (U : Int) < (l.length : Int) := by omega
                have m4 : (0 : Int) ≤ (j : Int) := by omega
                have m5 : (j : Int) < (l.length : Int) := by omega
                have hw4 : IntKind.i64.wrap ((j : Int) + 1) = (j : Int) + 1 := by rw [IntKind.wrap_i64]; omega
                have KS : Hid (∀ X, New wr X → X.cell? ⟨g, V * 2, none⟩ = some (.int .i64 pa.1) ∧ X.cell? ⟨g, V * 2 + 1, none⟩ = some (.int .i64 pa.2) ∧ X.cell? ⟨g, U * 2, none⟩ = some (.int .i64 pb.1) ∧ X.cell? ⟨g, U * 2 + 1, none⟩ = some (.int .i64 pb.2) ∧ X.cell? ⟨g, j * 2, none⟩ = some (.int .i64 pc.1) ∧ X.cell? ⟨g, j * 2 + 1, none⟩ = some (.int .i64 pc.2)) := fun X hX => ⟨hX.kept a0, hX.kept a1, hX.kept b0, hX.kept b1, hX.kept d0, hX.kept d1⟩
                have CN : Hid (New wr wr.drew) := (New.refl wr).dr
                go_wp2_with fail
                go_region_held3 (fun X => X.cell? ⟨g, V * 2, none⟩ = some (.int .i64 pa.1) ∧ X.cell? ⟨g, V * 2 + 1, none⟩ = some (.int .i64 pa.2) ∧ X.cell? ⟨g, U * 2, none⟩ = some (.int .i64 pb.1) ∧ X.cell? ⟨g, U * 2 + 1, none⟩ = some (.int .i64 pb.2) ∧ X.cell? ⟨g, j * 2, none⟩ = some (.int .i64 pc.1) ∧ X.cell? ⟨g, j * 2 + 1, none⟩ = some (.int .i64 pc.2))
                  (exact KS.out _ CN.out)
                  (first | (go_at_call 20; refine (kside_any pa.1 pa.2 pb.1 pb.2 pc.1 pc.2 _ (okB3 CA.out.1 CA.out.2.1 CA.out.2.2)).mono ?_; rintro e w5 ⟨rfl, H5⟩; replace CN : Hid (New wr w5) := CN.out.trans' H5.out; clear H5))
                clear a0 a1 b0 b1 d0 d1
                go_wp2_with fail
                go_roundw
                case rel => exact ⟨j + 1, by go_num, by omega, HJ.out.trans' CN.out⟩
                case measure => simp [intOf]; omega
              · have hj3 : j = l.length := by omega
                subst hj3
                go_wp2_with fail
                go_roundw
                case rel => exact ⟨k + 1, by go_num, by omega, H3'.out.2.trans' HJ.out⟩
                case measure => simp [intOf]; omega
          · go_wp2_with fail
            generalize wr = ws at *
            go_loopw [12] (fun v wr => v = .int .i64 0 ∧ Hid (New w3 wr)) (fun _ _ => 0)
            case atStart => exact ⟨rfl, New.refl _⟩
            case round =>
              obtain ⟨rfl, HJ⟩ := hrel
              by_cases hl0 : 0 < l.length
              · have q0 : (0 : Int) < (l.length : Int) := by omega
                go_wp2_with fail
                go_roundw
                case rel => exact ⟨k + 1, by go_num, by omega, H3'.out.2.trans' HJ.out⟩
                case measure => simp [intOf]; omega
              · exfalso; omega
        · have hk3 : k = 3 := by omega
          subst hk3
          go_wp2_with fail
          go_roundw
          case rel => exact ⟨i + 1, by go_num, by omega, H1'.out.1.trans' HK.out⟩
          case measure => simp [intOf]; omega
    · go_wp2_with fail
      go_ret
      exact ⟨rfl, HR.out⟩

end Go.Proofs.YtgeoffpcmkofkaaGreat
