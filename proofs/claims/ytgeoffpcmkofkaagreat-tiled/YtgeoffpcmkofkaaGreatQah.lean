/- Tb; Nb; Oa; Sh: texts laid into one. -/
import Derived.Test.YtgeoffpcmkofkaaGreatQag
import Derived.Test.YtgeoffpcmkofkaaGreatQae
import Derived.Test.YtgeoffpcmkofkaaGreatQac
import Derived.Sort.Grow
import Derived.Shelf.SlSortCmp.WholeK
import Derived.Shelf.SlGeneric
import Derived.Test.YtgeoffpcmkofkaaGreatProg
/- Flips end, for each takes points out of circles; where no side is wrong no circle holds a point. -/
namespace Go.Proofs.YtgeoffpcmkofkaaGreat

/-! ### How many points lie within the circles -/
def cnt (S : List Pt) (u v w : Pt) : Nat := S.countP fun x => decide (0 < C u v w x)
def costV (S : List Pt) (e : Ed) : Option Pt → Nat
  | none => 0
  | some w => cnt S e.1 e.2 w
def tot (L : List Ed) (S : List Pt) (m : Ms) : Nat := (L.map fun e => costV S e (m e)).sum

theorem tot_same {L : List Ed} {S : List Pt} {m m' : Ms} (h : ∀ e ∈ L, m' e = m e) : tot L S m' = tot L S m := by
  unfold tot
  congr 1
  apply List.map_congr_left
  intro e he
  rw [h e he]
theorem tot_one {S : List Pt} {m m' : Ms} {k : Ed} : ∀ {L : List Ed}, L.Nodup → k ∈ L → (∀ e, e ≠ k → m' e = m e) → tot L S m' + costV S k (m k) = tot L S m + costV S k (m' k)
  | [], _, h, _ => by simp at h
  | e :: L, hn, h, hs => by
    rw [List.nodup_cons] at hn
    have e1 : tot (e :: L) S m' = costV S e (m' e) + tot L S m' := by simp [tot]
    have e2 : tot (e :: L) S m = costV S e (m e) + tot L S m := by simp [tot]
    rw [e1, e2]
    by_cases hk : e = k
    · subst hk
      have : tot L S m' = tot L S m := tot_same fun f hf => hs f (fun c => hn.1 (c ▸ hf))
      omega
    · have := tot_one (S := S) (m := m) (m' := m') hn.2 ((List.mem_cons.1 h).resolve_left (fun c => hk c.symm)) hs
      rw [hs e hk]
      omega
theorem tot_set {L : List Ed} {S : List Pt} {m : Ms} {k : Ed} {c : Pt} (hn : L.Nodup) (hk : k ∈ L) : tot L S (setM m k c) + costV S k (m k) = tot L S m + costV S k (some c) := by
  have := tot_one (S := S) (m := m) (m' := setM m k c) hn hk (fun e he => by simp [setM, he])
  have e : setM m k c k = some c := by simp [setM]
  rw [e] at this; exact this
theorem tot_del {L : List Ed} {S : List Pt} {m : Ms} {k : Ed} (hn : L.Nodup) (hk : k ∈ L) : tot L S (delM m k) + costV S k (m k) = tot L S m := by
  have := tot_one (S := S) (m := m) (m' := delM m k) hn hk (fun e he => by simp [delM, he])
  have e : delM m k k = none := by simp [delM]
  rw [e] at this; exact this

theorem cnt_turn (S : List Pt) (u v w : Pt) : cnt S v w u = cnt S u v w := by
  unfold cnt; congr 1; funext x; rw [C_turn]
theorem cnt_turn' (S : List Pt) (u v w : Pt) : cnt S w u v = cnt S u v w := by
  unfold cnt; congr 1; funext x; rw [C_turn']

theorem cnt_flip {a b l r : Pt} (h1 : 0 < D a b l) (h2 : 0 < D b a r) (hc : 0 < C a b l r) : ∀ S : List Pt, cnt S a r l + cnt S b l r + (if r ∈ S then 1 else 0) ≤ cnt S a b l + cnt S b a r
  | [] => by simp [cnt]
  | x :: S => by
    have ih := cnt_flip h1 h2 hc S
    obtain ⟨p1, p2⟩ := flip_pt h1 h2 hc x
    have e : ∀ u v w, cnt (x :: S) u v w = cnt S u v w + if 0 < C u v w x then 1 else 0 := by
      intro u v w; unfold cnt; rw [List.countP_cons]; simp
    rw [e, e, e, e]
    by_cases hx : r = x
    · subst hx
      have z1 : C a r l r = 0 := C_second a r l
      have z2 : C b l r r = 0 := C_self b l r
      rw [z1, z2]
      simp only [List.mem_cons, true_or, if_true]
      rw [if_pos hc]
      simp only [Int.lt_irrefl, if_false]
      have : (if r ∈ S then 1 else 0) ≤ 1 := by split <;> omega
      omega
    · have : (r ∈ x :: S) ↔ (r ∈ S) := by simp [hx]
      simp only [this]
      by_cases c3 : 0 < C a r l x <;> by_cases c4 : 0 < C b l r x <;> by_cases c1 : 0 < C a b l x <;> by_cases c2 : 0 < C b a r x <;> simp only [c1, c2, c3, c4, if_true, if_false] <;> simp_all <;> omega

/-- A FLIP TAKES POINTS OUT OF CIRCLES. -/
theorem tot_flip {L : List Ed} {S : List Pt} {m : Ms} {a b l r : Pt} (hn : L.Nodup) (hL : ∀ u ∈ S, ∀ v ∈ S, (u, v) ∈ L) (h : Ok S m) (hl : m (a, b) = some l) (hr : m (b, a) = some r) (hc : 0 < C a b l r) :
    tot L S (flipM m a b l r) < tot L S m := by
  have h1 := h.pos _ _ _ hl
  have h2 := h.pos _ _ _ hr
  have ha := apart_of h1 h2 hc
  have e1 := h.rot _ _ _ hl; have e2 := h.rot' hl; have e3 := h.rot _ _ _ hr; have e4 := h.rot' hr
  obtain ⟨n1, n2⟩ := h.no_lr hl hr hc
  obtain ⟨aS, bS, lS⟩ := h.mem _ _ _ hl
  have rS := (h.mem _ _ _ hr).2.2
  have hcnt := cnt_flip h1 h2 hc S
  rw [if_pos rS] at hcnt
  unfold flipM addM
  obtain ⟨q1, q2, q3, q4, q5, q6⟩ := ha
  have t1 := tot_del (S := S) (m := m) hn (hL a aS b bS)
  have t2 := tot_del (S := S) (m := delM m (a, b)) hn (hL b bS a aS)
  have t3 := tot_set (S := S) (m := delM (delM m (a, b)) (b, a)) (c := l) hn (hL a aS r rS)
  have t4 := tot_set (S := S) (m := setM (delM (delM m (a, b)) (b, a)) (a, r) l) (c := a) hn (hL r rS l lS)
  have t5 := tot_set (S := S) (m := setM (setM (delM (delM m (a, b)) (b, a)) (a, r) l) (r, l) a) (c := r) hn (hL l lS a aS)
  have t6 := tot_set (S := S) (m := setM (setM (setM (delM (delM m (a, b)) (b, a)) (a, r) l) (r, l) a) (l, a) r) (c := r) hn (hL b bS l lS)
  have t7 := tot_set (S := S) (m := setM (setM (setM (setM (delM (delM m (a, b)) (b, a)) (a, r) l) (r, l) a) (l, a) r) (b, l) r) (c := b) hn (hL l lS r rS)
  have t8 := tot_set (S := S) (m := setM (setM (setM (setM (setM (delM (delM m (a, b)) (b, a)) (a, r) l) (r, l) a) (l, a) r) (b, l) r) (l, r) b) (c := l) hn (hL r rS b bS)
  have v2 : (delM m (a, b)) (b, a) = some r := by simp [delM, hr]; grind
  have v3 : (delM (delM m (a, b)) (b, a)) (a, r) = some b := by simp [delM]; grind
  have v4 : (setM (delM (delM m (a, b)) (b, a)) (a, r) l) (r, l) = none := by simp [delM, setM]; grind
  have v5 : (setM (setM (delM (delM m (a, b)) (b, a)) (a, r) l) (r, l) a) (l, a) = some b := by simp [delM, setM]; grind
  have v6 : (setM (setM (setM (delM (delM m (a, b)) (b, a)) (a, r) l) (r, l) a) (l, a) r) (b, l) = some a := by simp [delM, setM]; grind
  have v7 : (setM (setM (setM (setM (delM (delM m (a, b)) (b, a)) (a, r) l) (r, l) a) (l, a) r) (b, l) r) (l, r) = none := by simp [delM, setM]; grind
  have v8 : (setM (setM (setM (setM (setM (delM (delM m (a, b)) (b, a)) (a, r) l) (r, l) a) (l, a) r) (b, l) r) (l, r) b) (r, b) = some a := by simp [delM, setM]; grind
  rw [hl] at t1
  rw [v2] at t2
  rw [v3] at t3
  rw [v4] at t4
  rw [v5] at t5
  rw [v6] at t6
  rw [v7] at t7
  rw [v8] at t8
  simp only [costV] at *
  have c1 : cnt S l a b = cnt S a b l := cnt_turn' S a b l
  have c2 : cnt S b l a = cnt S a b l := cnt_turn S a b l
  have c3 : cnt S a r b = cnt S b a r := cnt_turn S b a r
  have c4 : cnt S r b a = cnt S b a r := cnt_turn' S b a r
  have c5 : cnt S r l a = cnt S a r l := cnt_turn S a r l
  have c6 : cnt S l a r = cnt S a r l := cnt_turn' S a r l
  have c7 : cnt S l r b = cnt S b l r := cnt_turn S b l r
  have c8 : cnt S r b l = cnt S b l r := cnt_turn' S b l r
  omega

theorem tot_le (L : List Ed) (S : List Pt) (m : Ms) : tot L S m ≤ L.length * S.length := by
  induction L with
  | nil => simp [tot]
  | cons e L ih =>
    have e1 : tot (e :: L) S m = costV S e (m e) + tot L S m := by simp [tot]
    have : costV S e (m e) ≤ S.length := by
      cases m e with
      | none => simp [costV]
      | some w => exact List.countP_le_length
    rw [e1, List.length_cons, Nat.add_mul, Nat.one_mul]
    omega

/-! ### Flips, one after the other -/
def wrong (m : Ms) (e : Ed) : Bool := match m e, m (e.2, e.1) with
  | some l, some r => decide (0 < C e.1 e.2 l r)
  | _, _ => false
abbrev St := Ms × List Ed
def turned (m : Ms) (e : Ed) : Ms := match m e, m (e.2, e.1) with
  | some l, some r => flipM m e.1 e.2 l r
  | _, _ => m
def around (m : Ms) (e : Ed) : List Ed := match m e, m (e.2, e.1) with
  | some l, some r => [(e.1, r), (r, e.2), (e.2, l), (l, e.1)]
  | _, _ => []
def step (s : St) : St := match s.2.getLast? with
  | none => s
  | some e => if wrong s.1 e then (turned s.1 e, s.2.dropLast ++ around s.1 e) else (s.1, s.2.dropLast)
def steps : Nat → St → St
  | 0, s => s
  | n + 1, s => step (steps n s)
theorem steps_add (n k : Nat) (s : St) : steps (n + k) s = steps k (steps n s) := by
  induction k with
  | zero => rfl
  | succ k ih => rw [Nat.add_succ]; unfold steps; rw [ih]
theorem step_nil {s : St} (h : s.2 = []) : step s = s := by unfold step; rw [h]; rfl
theorem steps_nil {s : St} (h : s.2 = []) (n : Nat) : steps n s = s := by
  induction n with
  | zero => rfl
  | succ n ih => unfold steps; rw [ih, step_nil h]
theorem steps_end {s : St} {n k : Nat} (hn : (steps n s).2 = []) (hk : (steps k s).2 = []) : steps n s = steps k s := by
  rcases Nat.le_total n k with h | h
  · obtain ⟨d, rfl⟩ := Nat.exists_eq_add_of_le h
    rw [steps_add, steps_nil hn]
  · obtain ⟨d, rfl⟩ := Nat.exists_eq_add_of_le h
    rw [steps_add, steps_nil hk]

theorem wrong_inv {m : Ms} {e : Ed} (h : wrong m e = true) : ∃ l r, m (e.1, e.2) = some l ∧ m (e.2, e.1) = some r ∧ 0 < C e.1 e.2 l r := by
  obtain ⟨a, b⟩ := e
  unfold wrong at h
  cases h1 : m (a, b) with
  | none => rw [h1] at h; cases h
  | some l =>
    cases h2 : m (b, a) with
    | none => rw [h1] at h; simp only [h2] at h; cases h
    | some r => rw [h1] at h; simp only [h2] at h; exact ⟨l, r, rfl, rfl, by simpa using h⟩
theorem wrong_mk {m : Ms} {a b l r : Pt} (h1 : m (a, b) = some l) (h2 : m (b, a) = some r) : wrong m (a, b) = decide (0 < C a b l r) := by
  unfold wrong; simp only [h1, h2]
theorem wrong_rev (m : Ms) (a b : Pt) : wrong m (b, a) = wrong m (a, b) := by
  unfold wrong
  simp only
  cases h1 : m (a, b) <;> cases h2 : m (b, a) <;> simp [C_rev]
theorem turned_eq {m : Ms} {a b l r : Pt} (h1 : m (a, b) = some l) (h2 : m (b, a) = some r) : turned m (a, b) = flipM m a b l r := by
  unfold turned; simp only [h1, h2]
theorem around_eq {m : Ms} {a b l r : Pt} (h1 : m (a, b) = some l) (h2 : m (b, a) = some r) : around m (a, b) = [(a, r), (r, b), (b, l), (l, a)] := by
  unfold around; simp only [h1, h2]

theorem C_diag (a b l r : Pt) : C r l a b = -C a b l r := by unfold C cdet; grind
theorem C_diag' (a b l r : Pt) : C l r b a = -C a b l r := by unfold C cdet; grind

/-- Between two steps: all is as it must be, and what is wrong is still to be looked at. -/
structure Inv (S : List Pt) (s : St) : Prop where
  ok : Ok S s.1
  wr : ∀ u v, wrong s.1 (u, v) = true → (u, v) ∈ s.2 ∨ (v, u) ∈ s.2

theorem last_cases (o : List Ed) : o = [] ∨ ∃ o' e, o = o' ++ [e] := by
  rcases List.eq_nil_or_concat o with h | ⟨o', e, h⟩
  · exact .inl h
  · exact .inr ⟨o', e, by rw [h, List.concat_eq_append]⟩
theorem step_keep {m : Ms} {o : List Ed} {e : Ed} (h : wrong m e = false) : step (m, o ++ [e]) = (m, o) := by
  unfold step; simp [h]
theorem step_flip {m : Ms} {o : List Ed} {a b l r : Pt} (h1 : m (a, b) = some l) (h2 : m (b, a) = some r) (hc : 0 < C a b l r) : step (m, o ++ [(a, b)]) = (flipM m a b l r, o ++ [(a, r), (r, b), (b, l), (l, a)]) := by
  have hw : wrong m (a, b) = true := by rw [wrong_mk h1 h2]; simpa using hc
  unfold step; simp [hw, turned_eq h1 h2, around_eq h1 h2]

theorem inv_keep {S : List Pt} {m : Ms} {o : List Ed} {e : Ed} (h : Inv S (m, o ++ [e])) (hw : wrong m e = false) : Inv S (m, o) := by
  refine ⟨h.ok, fun u v hu => ?_⟩
  have := h.wr u v hu
  simp only [List.mem_append, List.mem_singleton] at this
  rcases this with (k | k) | (k | k)
  · exact .inl k
  · rw [k] at hu; rw [hw] at hu; cases hu
  · exact .inr k
  · rw [← wrong_rev, k] at hu; rw [hw] at hu; cases hu

theorem inv_flip {S : List Pt} {m : Ms} {o : List Ed} {a b l r : Pt} (h : Inv S (m, o ++ [(a, b)])) (h1 : m (a, b) = some l) (h2 : m (b, a) = some r) (hc : 0 < C a b l r) :
    Inv S (flipM m a b l r, o ++ [(a, r), (r, b), (b, l), (l, a)]) := by
  have hok := h.ok
  have ha := apart_of (hok.pos _ _ _ h1) (hok.pos _ _ _ h2) hc
  refine ⟨flip_ok hok h1 h2 hc, fun u v hu => ?_⟩
  obtain ⟨w, w', e1, e2, e3⟩ := wrong_inv hu
  simp only at e1 e2 e3
  have i1 := flip_inv ha e1
  have i2 := flip_inv ha e2
  have d1 := C_diag a b l r
  have d2 := C_diag' a b l r
  have hA := flipM_eq (m := m) ha
  simp only [List.mem_append, List.mem_cons, Prod.mk.injEq, List.not_mem_nil, or_false]
  rcases i1 with ⟨rfl, rfl, rfl⟩ | ⟨rfl, rfl, rfl⟩ | ⟨rfl, rfl, rfl⟩ | ⟨rfl, rfl, rfl⟩ | ⟨rfl, rfl, rfl⟩ | ⟨rfl, rfl, rfl⟩ | ⟨k, k1, k2, k3, k4, k5, k6, k7, k8⟩
  · exact .inl (.inr (.inl ⟨rfl, rfl⟩))
  · exfalso
    have : flipM m w b v u (v, u) = some b := by rw [hA]; obtain ⟨q1, q2, q3, q4, q5, q6⟩ := ha; grind
    rw [this] at e2
    injection e2 with e2
    subst e2
    omega
  · exact .inl (.inr (.inr (.inr (.inr ⟨rfl, rfl⟩))))
  · exact .inl (.inr (.inr (.inr (.inl ⟨rfl, rfl⟩))))
  · exfalso
    have : flipM m a w u v (v, u) = some a := by rw [hA]; obtain ⟨q1, q2, q3, q4, q5, q6⟩ := ha; grind
    rw [this] at e2
    injection e2 with e2
    subst e2
    omega
  · exact .inl (.inr (.inr (.inl ⟨rfl, rfl⟩)))
  · rcases i2 with ⟨rfl, rfl, rfl⟩ | ⟨rfl, rfl, rfl⟩ | ⟨rfl, rfl, rfl⟩ | ⟨rfl, rfl, rfl⟩ | ⟨rfl, rfl, rfl⟩ | ⟨rfl, rfl, rfl⟩ | ⟨k', _, _, _, _, _, _, k7', k8'⟩
    · exact .inr (.inr (.inl ⟨rfl, rfl⟩))
    · exact absurd rfl k5
    · exact .inr (.inr (.inr (.inr (.inr ⟨rfl, rfl⟩))))
    · exact .inr (.inr (.inr (.inr (.inl ⟨rfl, rfl⟩))))
    · exact absurd rfl k2
    · exact .inr (.inr (.inr (.inl ⟨rfl, rfl⟩)))
    · have hw : wrong m (u, v) = true := by rw [wrong_mk k k']; simpa using e3
      have := h.wr u v hw
      simp only [List.mem_append, List.mem_singleton] at this
      rcases this with (p | p) | (p | p)
      · exact .inl (.inl p)
      · exact absurd p k7
      · exact .inr (.inl p)
      · exact absurd p k7'

def mu (L : List Ed) (S : List Pt) (s : St) : Nat := 5 * tot L S s.1 + s.2.length
theorem step_inv {S : List Pt} {s : St} (h : Inv S s) : Inv S (step s) := by
  obtain ⟨m, o⟩ := s
  rcases last_cases o with rfl | ⟨o', ⟨a, b⟩, rfl⟩
  · exact h
  · cases hw : wrong m (a, b) with
    | false => rw [step_keep hw]; exact inv_keep h hw
    | true =>
      obtain ⟨l, r, h1, h2, hc⟩ := wrong_inv hw
      rw [step_flip h1 h2 hc]; exact inv_flip h h1 h2 hc
theorem step_mu {L : List Ed} {S : List Pt} {s : St} (hn : L.Nodup) (hL : ∀ u ∈ S, ∀ v ∈ S, (u, v) ∈ L) (h : Inv S s) (hne : s.2 ≠ []) : mu L S (step s) < mu L S s := by
  obtain ⟨m, o⟩ := s
  rcases last_cases o with rfl | ⟨o', ⟨a, b⟩, rfl⟩
  · exact absurd rfl hne
  · cases hw : wrong m (a, b) with
    | false => rw [step_keep hw]; simp [mu]
    | true =>
      obtain ⟨l, r, h1, h2, hc⟩ := wrong_inv hw
      rw [step_flip h1 h2 hc]
      have := tot_flip hn hL h.ok h1 h2 hc
      simp only [mu, List.length_append, List.length_cons, List.length_nil]
      simp only at this
      omega
theorem steps_inv {S : List Pt} {s : St} (h : Inv S s) (n : Nat) : Inv S (steps n s) := by
  induction n with
  | zero => exact h
  | succ n ih => exact step_inv ih
theorem steps_mu {L : List Ed} {S : List Pt} {s : St} (hn : L.Nodup) (hL : ∀ u ∈ S, ∀ v ∈ S, (u, v) ∈ L) (h : Inv S s) : ∀ n, mu L S (steps n s) ≤ mu L S s
  | 0 => Nat.le_refl _
  | n + 1 => by
    have ih := steps_mu hn hL h n
    unfold steps
    by_cases he : (steps n s).2 = []
    · rw [step_nil he]; exact ih
    · have := step_mu hn hL (steps_inv h n) he
      omega
theorem steps_stop {L : List Ed} {S : List Pt} {s : St} (hn : L.Nodup) (hL : ∀ u ∈ S, ∀ v ∈ S, (u, v) ∈ L) (h : Inv S s) : (steps (mu L S s) s).2 = [] := by
  suffices H : ∀ n, (steps n s).2 = [] ∨ mu L S (steps n s) + n ≤ mu L S s by
    rcases H (mu L S s) with h | h
    · exact h
    · cases e : (steps (mu L S s) s).2 with
      | nil => rfl
      | cons x y =>
        have h0 : mu L S (steps (mu L S s) s) = 0 := by omega
        have h1 : (steps (mu L S s) s).2.length ≤ mu L S (steps (mu L S s) s) := by
          show _ ≤ 5 * _ + (steps (mu L S s) s).2.length
          omega
        rw [h0, e] at h1
        simp at h1
  intro n
  induction n with
  | zero => exact .inr (Nat.le_refl _)
  | succ n ih =>
    unfold steps
    by_cases he : (steps n s).2 = []
    · rw [step_nil he]; exact .inl he
    · rcases ih with ih | ih
      · exact absurd ih he
      · have := step_mu hn hL (steps_inv h n) he
        exact .inr (by omega)
/-- Nothing is wrong at the end. -/
theorem inv_end {S : List Pt} {s : St} (h : Inv S s) (he : s.2 = []) (e : Ed) : wrong s.1 e = false := by
  cases hw : wrong s.1 e with
  | false => rfl
  | true =>
    have := h.wr e.1 e.2 hw
    rw [he] at this
    simp at this

/-! ### Where nothing is wrong, no circle holds a point -/
theorem minRatio {α : Type} (f g : α → Int) : ∀ L : List α, (∀ x ∈ L, 0 < g x) → L ≠ [] → ∃ x ∈ L, ∀ y ∈ L, f x * g y ≤ f y * g x
  | [], _, h => absurd rfl h
  | [a], _, _ => ⟨a, by simp, fun y hy => by simp at hy; subst hy; omega⟩
  | a :: b :: L, hg, _ => by
    obtain ⟨x, hx, hm⟩ := minRatio f g (b :: L) (fun x hx => hg x (List.mem_cons_of_mem _ hx)) (by simp)
    have ga := hg a (by simp)
    have gx := hg x (List.mem_cons_of_mem _ hx)
    rcases Int.le_total (f x * g a) (f a * g x) with k | k
    · refine ⟨x, List.mem_cons_of_mem _ hx, fun y hy => ?_⟩
      rcases List.mem_cons.1 hy with rfl | hy
      · exact k
      · exact hm y hy
    · refine ⟨a, by simp, fun y hy => ?_⟩
      rcases List.mem_cons.1 hy with rfl | hy
      · omega
      · have gy := hg y (List.mem_cons_of_mem _ hy)
        have h1 := hm y hy
        -- f a * g x ≤ f x * g a, f x * g y ≤ f y * g x
        have e : 0 ≤ g x * (f y * g a - f a * g y) := by
          have e1 : g x * (f y * g a - f a * g y) = g a * (f y * g x - f x * g y) + g y * (f x * g a - f a * g x) := by grind
          rw [e1]
          have := mul_nn (Int.le_of_lt ga) (show 0 ≤ f y * g x - f x * g y by omega)
          have := mul_nn (Int.le_of_lt gy) (show 0 ≤ f x * g a - f a * g x by omega)
          omega
        have := nonneg_of_mul gx e
        omega

/-- All directed sides between points. -/
def pairs (S : List Pt) : List Ed := S.flatMap fun u => S.map fun v => (u, v)
theorem mem_pairs {S : List Pt} {u v : Pt} : (u, v) ∈ pairs S ↔ u ∈ S ∧ v ∈ S := by
  unfold pairs
  simp only [List.mem_flatMap, List.mem_map, Prod.mk.injEq]
  constructor
  · rintro ⟨a, ha, b, hb, rfl, rfl⟩; exact ⟨ha, hb⟩
  · rintro ⟨hu, hv⟩; exact ⟨u, hu, v, hv, rfl, rfl⟩

/-- A wrongly held point that lies beyond a side. -/
def bad (m : Ms) (x : Pt) (e : Ed) : Bool := match m e with
  | some w => decide (0 < C e.1 e.2 w x) && decide (D e.1 e.2 x < 0)
  | none => false
theorem bad_iff {m : Ms} {x u v : Pt} : bad m x (u, v) = true ↔ ∃ w, m (u, v) = some w ∧ 0 < C u v w x ∧ D u v x < 0 := by
  unfold bad
  cases m (u, v) with
  | none => simp
  | some w => simp

theorem dot_id1 (u v p x : Pt) : dot u v x * D v p x - dot p v x * D v u x = sq x v * D u p x := by unfold dot D det sq; grind
theorem dot_id2 (u v p x : Pt) : dot u v x * D p u x - dot u p x * D v u x = sq x u * D p v x := by unfold dot D det sq; grind

theorem cross_over {u v w p x : Pt} (h1 : 0 < D u v w) (h2 : D u v p < 0) (hx : D u v x < 0) (hc : 0 < C u v w x) (hl : C u v w p ≤ 0) : 0 < C v u p x := by
  rw [C_swap]
  have : 0 < D u v w * -C u v p x := by
    rw [C_cross] at *
    have e : D u v w * -(dot u v p * D u v x - dot u v x * D u v p) = (-D u v x) * -(dot u v w * D u v p - dot u v p * D u v w) + (-D u v p) * (dot u v w * D u v x - dot u v x * D u v w) := by grind
    rw [e]
    have a1 := mul_nn (show 0 ≤ -D u v x by omega) (show 0 ≤ -(dot u v w * D u v p - dot u v p * D u v w) by omega)
    have a2 := Int.mul_pos (show 0 < -D u v p by omega) hc
    omega
  exact pos_of_mul h1 this

theorem Ok.outside {S : List Pt} {m : Ms} (h : Ok S m) {u v w x : Pt} (hm : m (u, v) = some w) (hx : x ∈ S) (hc : 0 < C u v w x) : D u v x < 0 ∨ D v w x < 0 ∨ D w u x < 0 := by
  rcases lt_or_ge' (D u v x) 0 with g1 | g1
  · exact .inl g1
  · rcases lt_or_ge' (D v w x) 0 with g2 | g2
    · exact .inr (.inl g2)
    · rcases lt_or_ge' (D w u x) 0 with g3 | g3
      · exact .inr (.inr g3)
      · exfalso
        rcases h.empty u v w hm x hx g1 g2 g3 with e | e | e
        · rw [e, C_first] at hc; omega
        · rw [e, C_second] at hc; omega
        · rw [e, C_self] at hc; omega

theorem empty_all {S : List Pt} {m : Ms} (h : Ok S m) (hw : ∀ e, wrong m e = false) {u v w : Pt} (hm : m (u, v) = some w) {x : Pt} (hx : x ∈ S) : C u v w x ≤ 0 := by
  rcases lt_or_ge' 0 (C u v w x) with hc | hc
  · exfalso
    let L := (pairs S).filter (bad m x)
    have hL : ∀ {u v : Pt}, (u, v) ∈ L ↔ bad m x (u, v) = true := by
      intro u v
      simp only [L, List.mem_filter, mem_pairs]
      constructor
      · exact fun k => k.2
      · intro k
        obtain ⟨w, k1, _⟩ := bad_iff.1 k
        have := h.mem _ _ _ k1
        exact ⟨⟨this.1, this.2.1⟩, k⟩
    have hne : L ≠ [] := by
      rcases h.outside hm hx hc with g | g | g
      · exact List.ne_nil_of_mem (hL.2 (bad_iff.2 ⟨w, hm, hc, g⟩))
      · exact List.ne_nil_of_mem (hL.2 (bad_iff.2 ⟨u, h.rot _ _ _ hm, by rw [C_turn]; exact hc, g⟩))
      · exact List.ne_nil_of_mem (hL.2 (bad_iff.2 ⟨v, h.rot' hm, by rw [C_turn']; exact hc, g⟩))
    obtain ⟨⟨s, t⟩, hst, hmin⟩ := minRatio (fun e : Ed => dot e.1 e.2 x) (fun e : Ed => D e.2 e.1 x) L (fun ⟨s, t⟩ hs => by
      obtain ⟨_, _, _, k⟩ := bad_iff.1 (hL.1 hs)
      show 0 < D t s x
      rw [D_swap']; omega) hne
    obtain ⟨z, k1, k2, k3⟩ := bad_iff.1 (hL.1 hst)
    cases hp : m (t, s) with
    | none => have := h.hull s t z k1 hp x hx; omega
    | some p =>
      have hloc : C s t z p ≤ 0 := by
        have := hw (s, t)
        rw [wrong_mk k1 hp] at this
        simp at this; exact this
      have pz := h.pos _ _ _ k1
      have pp := h.pos _ _ _ hp
      have dp : D s t p < 0 := by rw [D_swap'] at pp; omega
      have hcx := cross_over pz dp k3 k2 hloc
      have out := h.outside hp hx hcx
      have dts : 0 < D t s x := by rw [D_swap']; omega
      -- not beyond both sides at p
      have nc : ¬(D s p x ≤ 0 ∧ D p t x ≤ 0) := fun ⟨g1, g2⟩ => by
        have := corner (a := p) (r := t) (l := s) (x := x) (by rw [D_turn']; exact pp) g1 g2
        rw [C_turn'] at this; omega
      rcases out with g | g | g
      · omega
      · -- beyond (s, p)
        have mem : (s, p) ∈ L := hL.2 (bad_iff.2 ⟨t, h.rot _ _ _ hp, by rw [C_turn]; exact hcx, g⟩)
        have hle := hmin (s, p) mem
        simp only at hle
        have e := dot_id2 s t p x
        have e2 : 0 < sq x s * D p t x := by
          refine Int.mul_pos (sq_pos fun k => ?_) (by omega)
          rw [k, D_same1] at k3; omega
        omega
      · have mem : (p, t) ∈ L := hL.2 (bad_iff.2 ⟨s, h.rot' hp, by rw [C_turn']; exact hcx, g⟩)
        have hle := hmin (p, t) mem
        simp only at hle
        have e := dot_id1 s t p x
        have e2 : 0 < sq x t * D s p x := by
          refine Int.mul_pos (sq_pos fun k => ?_) (by omega)
          rw [k, D_same2] at k3; omega
        omega
  · exact hc

end Go.Proofs.YtgeoffpcmkofkaaGreat
/- The walks of package mesh: 'isWrong'. -/
namespace Go.Proofs.YtgeoffpcmkofkaaGreat
open Go.RowKit Go.Maps Fl
set_option maxRecDepth 100000
attribute [local go_sem ↓] Go.wp_at_zero Go.wp_at_succ

section
variable (w : World) {ops : Array Oper} {rest : List Oper} {o : Oper} {a : Act} {Q : Exit → Act → World → Prop}
theorem wpList_lookE_some (hg : o.guard = none) (x y : Operand) (hop : o.op = Op.lookup 51 x y true) (b n : Nat) (m : Ms) (hm : a.eval x = .map (some b)) (h : MapE w b n m) (e : Ed) (hy : a.eval y = edV e) {c : Pt} (hc : m e = some c)
    (hK : wpList Tryz.prog ops Q rest (a.put o.dst (.tuple #[.agg #[.int .i64 c.1, .int .i64 c.2], .bool true])) w) : wpList Tryz.prog ops Q (o :: rest) a w :=
  wpList_lookE_ok w hg x y hop b n m hm h e hy (h.sup hc) (by rw [hc, show atM m e = c by simp [atM, hc]]; exact hK)
theorem wpList_lookE_none (hg : o.guard = none) (x y : Operand) (hop : o.op = Op.lookup 51 x y true) (b n : Nat) (m : Ms) (hm : a.eval x = .map (some b)) (h : MapE w b n m) (e : Ed) (hy : a.eval y = edV e) (he : CdE e) (hc : m e = none)
    (hK : wpList Tryz.prog ops Q rest (a.put o.dst (.tuple #[.agg #[.int .i64 0, .int .i64 0], .bool false])) w) : wpList Tryz.prog ops Q (o :: rest) a w :=
  wpList_lookE_ok w hg x y hop b n m hm h e hy he (by rw [hc, show atM m e = (0, 0) by simp [atM, hc]]; exact hK)
end

theorem New.dr {w w1 : World} (h : New w w1) : New w w1.drew := ⟨h.os, h.tape, h.output, h.size, h.block⟩

/-- Its corners are points that may be. -/
def Vals (m : Ms) : Prop := ∀ e c, m e = some c → CdP c

/-- A box with a point, a box with a side. -/
structure BoxP (w : World) (k : Nat) (p : Pt) : Prop where
  c0 : w.cell? ⟨k, 0, none⟩ = some (.int .i64 p.1)
  c1 : w.cell? ⟨k, 1, none⟩ = some (.int .i64 p.2)
structure BoxE (w : World) (k : Nat) (e : Ed) : Prop where
  c0 : w.cell? ⟨k, 0, none⟩ = some (.int .i64 e.1.1)
  c1 : w.cell? ⟨k, 1, none⟩ = some (.int .i64 e.1.2)
  c2 : w.cell? ⟨k, 2, none⟩ = some (.int .i64 e.2.1)
  c3 : w.cell? ⟨k, 3, none⟩ = some (.int .i64 e.2.2)
theorem BoxP.new {w w' : World} {k : Nat} {p : Pt} (h : BoxP w k p) (H : New w w') : BoxP w' k p := ⟨H.kept h.c0, H.kept h.c1⟩
theorem BoxE.new {w w' : World} {k : Nat} {e : Ed} (h : BoxE w k e) (H : New w w') : BoxE w' k e := ⟨H.kept h.c0, H.kept h.c1, H.kept h.c2, H.kept h.c3⟩
theorem BoxP.turned {w w' : World} {b k : Nat} {p : Pt} (h : BoxP w k p) (t : w.mapTurned w' b) (hb : k ≠ b) : BoxP w' k p := ⟨(turned_cell t hb).trans h.c0, (turned_cell t hb).trans h.c1⟩
theorem BoxE.turned {w w' : World} {b k : Nat} {e : Ed} (h : BoxE w k e) (t : w.mapTurned w' b) (hb : k ≠ b) : BoxE w' k e := ⟨(turned_cell t hb).trans h.c0, (turned_cell t hb).trans h.c1, (turned_cell t hb).trans h.c2, (turned_cell t hb).trans h.c3⟩
theorem grown_cell {w w' : World} {row : Option Nat} {k off : Nat} {v : Value} (H : w.grownBy w' row) (hk : some k ≠ row) (h : w.cell? ⟨k, off, none⟩ = some v) : w'.cell? ⟨k, off, none⟩ = some v :=
  (World.cell?_of_block (a := ⟨k, off, none⟩) (H.block k (World.block_lt_of_cell? w _ h) (by exact hk))).trans h
theorem BoxP.grown {w w' : World} {row : Option Nat} {k : Nat} {p : Pt} (h : BoxP w k p) (H : w.grownBy w' row) (hk : some k ≠ row) : BoxP w' k p := ⟨grown_cell H hk h.c0, grown_cell H hk h.c1⟩
theorem BoxE.grown {w w' : World} {row : Option Nat} {k : Nat} {e : Ed} (h : BoxE w k e) (H : w.grownBy w' row) (hk : some k ≠ row) : BoxE w' k e := ⟨grown_cell H hk h.c0, grown_cell H hk h.c1, grown_cell H hk h.c2, grown_cell H hk h.c3⟩

set_option maxHeartbeats 1600000 in
theorem isWrong_both (b n : Nat) (m : Ms) (u v l r : Pt) (w : World) (h : MapE w b n m) (hl : m (u, v) = some l) (hr : m (v, u) = some r) (hv : Vals m) :
    Calls Tryz.prog 47 #[.map (some b), .agg #[.int .i64 u.1, .int .i64 u.2, .int .i64 v.1, .int .i64 v.2]] w fun e w' => e = .returned (.bool (decide (0 < C u v l r))) ∧ Hid (New w w') := by
  have H : Hid (MapE w b n m) := h
  have he : Hid (CdE (u, v)) := h.sup hl
  have hvl : Hid (CdP l ∧ CdP r) := ⟨hv _ _ hl, hv _ _ hr⟩
  clear h hv
  go_enter Tryz.func47, Tryz.ntmps47
  go_wp2_with (first
    | (at_lookup; refine wpList_lookE_some _ rfl _ _ rfl b n m rfl (H.out.new ((New.refl w).alloc' _)) (u, v) rfl hl ?_)
    | (go_at_call 63; refine (reverse_any u.1 u.2 v.1 v.2 _).mono ?_
       rintro e w1 ⟨rfl, H1⟩
       have N1 : Hid (New w w1) := (((New.refl w).alloc' _).alloc' _).trans' H1.out
       have B1 : Hid (BoxE w1 w.heap.size (u, v) ∧ BoxP w1 (w.heap.size + 1) l) := ⟨(BoxE.mk (by go_simp) (by go_simp) (by go_simp) (by go_simp) : BoxE _ _ (u, v)).new H1.out, (BoxP.mk (by go_simp) (by go_simp) : BoxP _ _ l).new H1.out⟩
       have lt0 : w.heap.size < w1.heap.size := World.block_lt_of_cell? w1 _ B1.out.1.c0
       have lt1 : w.heap.size + 1 < w1.heap.size := World.block_lt_of_cell? w1 _ B1.out.2.c0
       clear H1
       obtain ⟨⟨x0, x1, x2, x3⟩, y0, y1⟩ := B1.out)
    | (at_lookup; refine wpList_lookE_some _ rfl _ _ rfl b n m rfl (H.out.new N1.out) (v, u) rfl hr ?_)
    | (go_at_call 25; refine (ofCircle_any u.1 u.2 v.1 v.2 l.1 l.2 r.1 r.2 _ he.out.1.1 he.out.1.2 he.out.2.1 he.out.2.2 hvl.out.1.1 hvl.out.1.2 hvl.out.2.1 hvl.out.2.2).mono ?_
       rintro e w2 ⟨rfl, H2⟩
       have N2 : Hid (New w w2) := (N1.out.alloc' _).trans' H2.out
       clear H2)
    | go_in)
  go_ret
  exact ⟨by rw [show decide (0 < sgn (cdet u.1 u.2 v.1 v.2 l.1 l.2 r.1 r.2)) = decide (0 < C u v l r) from decide_eq_decide.2 sgn_pos]; rfl, N2⟩

set_option maxHeartbeats 1600000 in
theorem isWrong_out (b n : Nat) (m : Ms) (u v : Pt) (w : World) (h : MapE w b n m) (hl : m (u, v) = none) (he : CdE (u, v)) :
    Calls Tryz.prog 47 #[.map (some b), .agg #[.int .i64 u.1, .int .i64 u.2, .int .i64 v.1, .int .i64 v.2]] w fun e w' => e = .returned (.bool false) ∧ Hid (New w w') := by
  have H : Hid (MapE w b n m) := h
  have hE : Hid (CdE (u, v) ∧ CdE (v, u)) := ⟨he, he.2, he.1⟩
  clear h he
  cases hr : m (v, u) with
  | none =>
    go_enter Tryz.func47, Tryz.ntmps47
    go_wp2_with (first
      | (at_lookup; refine wpList_lookE_none _ rfl _ _ rfl b n m rfl (H.out.new ((New.refl w).alloc' _)) (u, v) rfl hE.out.1 hl ?_)
      | (go_at_call 63; refine (reverse_any u.1 u.2 v.1 v.2 _).mono ?_
         rintro e w1 ⟨rfl, H1⟩
         have N1 : Hid (New w w1) := (((New.refl w).alloc' _).alloc' _).trans' H1.out
         clear H1)
      | (at_lookup; refine wpList_lookE_none _ rfl _ _ rfl b n m rfl (H.out.new N1.out) (v, u) rfl hE.out.2 hr ?_)
      | go_in)
    go_ret
    exact ⟨rfl, N1.out.alloc' _⟩
  | some r =>
    go_enter Tryz.func47, Tryz.ntmps47
    go_wp2_with (first
      | (at_lookup; refine wpList_lookE_none _ rfl _ _ rfl b n m rfl (H.out.new ((New.refl w).alloc' _)) (u, v) rfl hE.out.1 hl ?_)
      | (go_at_call 63; refine (reverse_any u.1 u.2 v.1 v.2 _).mono ?_
         rintro e w1 ⟨rfl, H1⟩
         have N1 : Hid (New w w1) := (((New.refl w).alloc' _).alloc' _).trans' H1.out
         clear H1)
      | (at_lookup; refine wpList_lookE_some _ rfl _ _ rfl b n m rfl (H.out.new N1.out) (v, u) rfl hr ?_)
      | go_in)
    go_ret
    exact ⟨rfl, N1.out.alloc' _⟩

set_option maxHeartbeats 1600000 in
theorem isWrong_one (b n : Nat) (m : Ms) (u v l : Pt) (w : World) (h : MapE w b n m) (hl : m (u, v) = some l) (hr : m (v, u) = none) :
    Calls Tryz.prog 47 #[.map (some b), .agg #[.int .i64 u.1, .int .i64 u.2, .int .i64 v.1, .int .i64 v.2]] w fun e w' => e = .returned (.bool false) ∧ Hid (New w w') := by
  have H : Hid (MapE w b n m) := h
  have he := h.sup hl
  have hE : Hid (CdE (u, v) ∧ CdE (v, u)) := ⟨he, he.2, he.1⟩
  clear h he
  go_enter Tryz.func47, Tryz.ntmps47
  go_wp2_with (first
    | (at_lookup; refine wpList_lookE_some _ rfl _ _ rfl b n m rfl (H.out.new ((New.refl w).alloc' _)) (u, v) rfl hl ?_)
    | (go_at_call 63; refine (reverse_any u.1 u.2 v.1 v.2 _).mono ?_
       rintro e w1 ⟨rfl, H1⟩
       have N1 : Hid (New w w1) := (((New.refl w).alloc' _).alloc' _).trans' H1.out
       clear H1)
    | (at_lookup; refine wpList_lookE_none _ rfl _ _ rfl b n m rfl (H.out.new N1.out) (v, u) rfl hE.out.2 hr ?_)
    | go_in)
  go_ret
  exact ⟨rfl, N1.out.alloc' _⟩

/-- 'isWrong'. -/
theorem isWrong_any (b n : Nat) (m : Ms) (e : Ed) (w : World) (h : MapE w b n m) (he : CdE e) (hv : Vals m) :
    Calls Tryz.prog 47 #[.map (some b), .agg #[.int .i64 e.1.1, .int .i64 e.1.2, .int .i64 e.2.1, .int .i64 e.2.2]] w fun x w' => x = .returned (.bool (wrong m e)) ∧ Hid (New w w') := by
  obtain ⟨u, v⟩ := e
  cases hl : m (u, v) with
  | none =>
    have : wrong m (u, v) = false := by unfold wrong; rw [hl]
    rw [this]; exact isWrong_out b n m u v w h hl he
  | some l =>
    cases hr : m (v, u) with
    | none =>
      have : wrong m (u, v) = false := by unfold wrong; simp only [hl, hr]
      rw [this]; exact isWrong_one b n m u v l w h hl hr
    | some r => rw [wrong_mk hl hr]; exact isWrong_both b n m u v l r w h hl hr hv

end Go.Proofs.YtgeoffpcmkofkaaGreat
/- The orders by which is sorted: of points, of directed sides, of triangles; worlds that have but grown. -/
namespace Go.Proofs.YtgeoffpcmkofkaaGreat
open Go.RowKit Fl Go.Sort
set_option maxRecDepth 100000
attribute [local go_sem ↓] Go.wp_at_zero Go.wp_at_succ

/-- Nothing but draws and new blocks. -/
def Gr (w w' : World) : Prop := ∃ q os, w' = grow (w.drewN q) os
theorem Gr.refl (w : World) : Gr w w := ⟨0, #[], by simp [World.drewN]⟩
theorem Gr.al {w w' : World} (h : Gr w w') (o : Obj) : Gr w (w'.alloc o) := by
  obtain ⟨q, os, rfl⟩ := h
  exact ⟨q, os.push o, by simp [grow, World.alloc]⟩
theorem Gr.dr {w w' : World} (h : Gr w w') : Gr w w'.drew := by
  obtain ⟨q, os, rfl⟩ := h
  exact ⟨q + 1, os, by simp [grow, World.drewN, World.drew]; omega⟩
theorem Gr.trans {w w' w'' : World} (h : Gr w w') (h' : Gr w' w'') : Gr w w'' := by
  obtain ⟨q, os, rfl⟩ := h
  obtain ⟨q', os', rfl⟩ := h'
  exact ⟨q + q', os ++ os', by simp [grow, World.drewN, Array.append_assoc]; omega⟩
theorem Gr.new {w w' : World} (h : Gr w w') : New w w' := by
  obtain ⟨q, os, rfl⟩ := h
  exact ⟨rfl, rfl, rfl, by simp [grow, World.drewN], fun k hk _ => by simp [grow, World.drewN, Array.getElem?_append_left hk]⟩

set_option maxHeartbeats 800000 in
theorem compare_gr (ax ay bx by' : Int) (w : World) :
    Calls Tryz.prog 42 #[.agg #[.int .i64 ax, .int .i64 ay], .agg #[.int .i64 bx, .int .i64 by']] w fun e w' => e = .returned (.int .i64 (cmpP (ax, ay) (bx, by'))) ∧ Hid (Gr w w') := by
  go_enter Tryz.func42, Tryz.ntmps42
  go_wp2_with fail
  obtain ⟨W, hW⟩ : ∃ W, W = (w.alloc (.cells #[.int .i64 ax, .int .i64 ay] 36)).alloc (.cells #[.int .i64 bx, .int .i64 by'] 36) := ⟨_, rfl⟩
  have HW : Hid (Gr w W ∧ W.heap.size = w.heap.size + 2) := by rw [hW]; exact ⟨((Gr.refl w).al _).al _, by simp⟩
  have a0 : W.cell? ⟨w.heap.size, 0, none⟩ = some (.int .i64 ax) := by rw [hW]; go_simp
  have a1 : W.cell? ⟨w.heap.size, 1, none⟩ = some (.int .i64 ay) := by rw [hW]; go_simp
  have b0 : W.cell? ⟨w.heap.size + 1, 0, none⟩ = some (.int .i64 bx) := by rw [hW]; go_simp
  have b1 : W.cell? ⟨w.heap.size + 1, 1, none⟩ = some (.int .i64 by') := by rw [hW]; go_simp
  rw [← hW]
  clear hW
  have F1 : Hid (0 ≤ 0) := Nat.le_refl _
  go_region_held3 (fun w' => w'.cell? ⟨w.heap.size, 0, none⟩ = some (.int .i64 ax) ∧ w'.cell? ⟨w.heap.size, 1, none⟩ = some (.int .i64 ay) ∧ w'.cell? ⟨w.heap.size + 1, 0, none⟩ = some (.int .i64 bx) ∧ w'.cell? ⟨w.heap.size + 1, 1, none⟩ = some (.int .i64 by'))
    (first
      | go_keep)
    (first
      | (go_at_call 67; clear F1; refine (cmpInt_any ax bx _).mono ?_; rintro e w1 ⟨rfl, rfl⟩)
      | (go_at_call 67; refine (cmpInt_any ay by' _).mono ?_; rintro e w1 ⟨rfl, rfl⟩)
      | (go_at_call 66; refine (or2 (sgn (ax - bx)) (sgn (ay - by')) W.heap.size _ (by go_simp) (by go_simp)).mono ?_; rintro e w1 ⟨rfl, rfl⟩))
  go_wp2_with fail
  go_ret
  exact ⟨rfl, (HW.out.1.al _).dr⟩

/-- The order of directed sides. -/
def cmpE (e f : Ed) : Int := orI (cmpP e.1 f.1) (cmpP e.2 f.2)

set_option maxHeartbeats 1600000 in
theorem compareEdges_gr (e f : Ed) (w : World) :
    Calls Tryz.prog 46 #[.agg #[.int .i64 e.1.1, .int .i64 e.1.2, .int .i64 e.2.1, .int .i64 e.2.2], .agg #[.int .i64 f.1.1, .int .i64 f.1.2, .int .i64 f.2.1, .int .i64 f.2.2]] w fun x w' => x = .returned (.int .i64 (cmpE e f)) ∧ Hid (Gr w w') := by
  go_enter Tryz.func46, Tryz.ntmps46
  go_wp2_with fail
  obtain ⟨W, hW⟩ : ∃ W, W = (w.alloc (.cells #[.int .i64 e.1.1, .int .i64 e.1.2, .int .i64 e.2.1, .int .i64 e.2.2] 65)).alloc (.cells #[.int .i64 f.1.1, .int .i64 f.1.2, .int .i64 f.2.1, .int .i64 f.2.2] 65) := ⟨_, rfl⟩
  have HW : Hid (Gr w W ∧ BoxE W w.heap.size e ∧ BoxE W (w.heap.size + 1) f) := by rw [hW]; exact ⟨((Gr.refl w).al _).al _, ⟨by go_simp, by go_simp, by go_simp, by go_simp⟩, ⟨by go_simp, by go_simp, by go_simp, by go_simp⟩⟩
  rw [← hW]
  clear hW
  have F1 : Hid (0 ≤ 0) := Nat.le_refl _
  have C : Hid (Gr W W.drew) := (Gr.refl W).dr
  have KS : Hid (∀ V, Gr W V → V.cell? ⟨w.heap.size, 0, none⟩ = some (.int .i64 e.1.1) ∧ V.cell? ⟨w.heap.size, 1, none⟩ = some (.int .i64 e.1.2) ∧ V.cell? ⟨w.heap.size, 2, none⟩ = some (.int .i64 e.2.1) ∧ V.cell? ⟨w.heap.size, 3, none⟩ = some (.int .i64 e.2.2) ∧ V.cell? ⟨w.heap.size + 1, 0, none⟩ = some (.int .i64 f.1.1) ∧ V.cell? ⟨w.heap.size + 1, 1, none⟩ = some (.int .i64 f.1.2) ∧ V.cell? ⟨w.heap.size + 1, 2, none⟩ = some (.int .i64 f.2.1) ∧ V.cell? ⟨w.heap.size + 1, 3, none⟩ = some (.int .i64 f.2.2)) := by
    intro V hV
    have h1 := HW.out.2.1.new hV.new
    have h2 := HW.out.2.2.new hV.new
    exact ⟨h1.c0, h1.c1, h1.c2, h1.c3, h2.c0, h2.c1, h2.c2, h2.c3⟩
  go_region_held3 (fun V => V.cell? ⟨w.heap.size, 0, none⟩ = some (.int .i64 e.1.1) ∧ V.cell? ⟨w.heap.size, 1, none⟩ = some (.int .i64 e.1.2) ∧ V.cell? ⟨w.heap.size, 2, none⟩ = some (.int .i64 e.2.1) ∧ V.cell? ⟨w.heap.size, 3, none⟩ = some (.int .i64 e.2.2) ∧ V.cell? ⟨w.heap.size + 1, 0, none⟩ = some (.int .i64 f.1.1) ∧ V.cell? ⟨w.heap.size + 1, 1, none⟩ = some (.int .i64 f.1.2) ∧ V.cell? ⟨w.heap.size + 1, 2, none⟩ = some (.int .i64 f.2.1) ∧ V.cell? ⟨w.heap.size + 1, 3, none⟩ = some (.int .i64 f.2.2))
    (first | exact KS.out _ C.out | exact KS.out _ (C.out.al _))
    (first
      | (go_at_call 42; clear F1; refine (compare_gr e.1.1 e.1.2 f.1.1 f.1.2 _).mono ?_; rintro x w1 ⟨rfl, H1⟩; replace C : Hid (Gr W w1) := C.out.trans H1.out; clear H1)
      | (go_at_call 42; refine (compare_gr e.2.1 e.2.2 f.2.1 f.2.2 _).mono ?_; rintro x w2 ⟨rfl, H1⟩; replace C : Hid (Gr W w2) := C.out.trans H1.out; clear H1)
      | (go_at_call 66; refine (or2 (cmpP e.1 f.1) (cmpP e.2 f.2) _ _ (by go_simp) (by go_simp)).mono ?_; rintro x w3 ⟨rfl, rfl⟩))
  go_wp2_with fail
  go_ret
  exact ⟨rfl, HW.out.1.trans (C.out.al _)⟩

set_option maxHeartbeats 800000 in
theorem or3 (s t u : Int) (g : Nat) (V : World) (c0 : V.cell? ⟨g, 0, none⟩ = some (.int .i64 s)) (c1 : V.cell? ⟨g, 1, none⟩ = some (.int .i64 t)) (c2 : V.cell? ⟨g, 2, none⟩ = some (.int .i64 u)) :
    Calls Tryz.prog 66 #[.slice (some ⟨g, 0, none⟩) 3 3] V fun e w' => e = .returned (.int .i64 (orI s (orI t u))) ∧ V = w' := by
  have HS : Hid ((s = 0 → orI s (orI t u) = orI t u) ∧ (s ≠ 0 → orI s (orI t u) = s) ∧ (t = 0 → orI t u = u) ∧ (t ≠ 0 → orI t u = t)) := ⟨fun h => by rw [orI, if_pos h], fun h => by rw [orI, if_neg h], fun h => by rw [orI, if_pos h], fun h => by rw [orI, if_neg h]⟩
  generalize orI t u = tu at HS ⊢
  generalize orI s tu = stu at HS ⊢
  go_enter Tryz.func66, Tryz.ntmps66
  go_wp2_with fail
  go_loop [8] (fun i => ∃ k : Nat, i = .int .i64 k ∧ k ≤ 3 ∧ Hid ((1 ≤ k → s = 0) ∧ (2 ≤ k → t = 0) ∧ (3 ≤ k → u = 0)))
    (fun i => 3 - (intOf i).toNat)
  case atStart => exact ⟨0, rfl, Nat.zero_le _, fun h => by omega, fun h => by omega, fun h => by omega⟩
  case round =>
    obtain ⟨k, rfl, hle, H⟩ := hrel
    rcases (show k = 0 ∨ k = 1 ∨ k = 2 ∨ k = 3 by omega) with rfl | rfl | rfl | rfl
    · by_cases hs : s = 0
      · have HS0 : Hid (s = 0) := hs
        go_wp2_with fail
        go_round
        case rel => exact ⟨1, rfl, by omega, fun _ => HS0.out, fun h => by omega, fun h => by omega⟩
        case measure => simp [intOf]
      · have HE : Hid (stu = s) := HS.out.2.1 hs
        go_wp2_with fail
        go_ret
        exact ⟨by rw [HE.out]; rfl, rfl⟩
    · by_cases hs : t = 0
      · have HS0 : Hid (t = 0) := hs
        go_wp2_with fail
        go_round
        case rel => exact ⟨2, rfl, by omega, fun _ => H.out.1 (by omega), fun _ => HS0.out, fun h => by omega⟩
        case measure => simp [intOf]
      · have HE : Hid (stu = t) := by rw [Hid, HS.out.1 (H.out.1 (by omega)), HS.out.2.2.2 hs]
        go_wp2_with fail
        go_ret
        exact ⟨by rw [HE.out]; rfl, rfl⟩
    · have HT : Hid (stu = u) := by rw [Hid, HS.out.1 (H.out.1 (by omega)), HS.out.2.2.1 (H.out.2.1 (by omega))]
      by_cases hs : u = 0
      · have HS0 : Hid (u = 0) := hs
        go_wp2_with fail
        go_round
        case rel => exact ⟨3, rfl, by omega, fun _ => H.out.1 (by omega), fun _ => H.out.2.1 (by omega), fun _ => HS0.out⟩
        case measure => simp [intOf]
      · go_wp2_with fail
        go_ret
        exact ⟨by rw [HT.out]; rfl, rfl⟩
    · have HE : Hid (stu = 0) := by rw [Hid, HS.out.1 (H.out.1 (by omega)), HS.out.2.2.1 (H.out.2.1 (by omega)), H.out.2.2 (by omega)]
      go_wp2_with fail
      go_ret
      exact ⟨by rw [HE.out]; rfl, rfl⟩

abbrev Tri3 := Int × Int × Int
/-- The order of triangles. -/
def cmpT (s t : Tri3) : Int := orI (sgn (s.1 - t.1)) (orI (sgn (s.2.1 - t.2.1)) (sgn (s.2.2 - t.2.2)))

set_option maxHeartbeats 1600000 in
theorem compareTriangles_gr (s t : Tri3) (w : World) :
    Calls Tryz.prog 50 #[.agg #[.int .i64 s.1, .int .i64 s.2.1, .int .i64 s.2.2], .agg #[.int .i64 t.1, .int .i64 t.2.1, .int .i64 t.2.2]] w fun x w' => x = .returned (.int .i64 (cmpT s t)) ∧ Hid (Gr w w') := by
  go_enter Tryz.func50, Tryz.ntmps50
  go_wp2_with fail
  obtain ⟨W, hW⟩ : ∃ W, W = (w.alloc (.cells #[.int .i64 s.1, .int .i64 s.2.1, .int .i64 s.2.2] 33)).alloc (.cells #[.int .i64 t.1, .int .i64 t.2.1, .int .i64 t.2.2] 33) := ⟨_, rfl⟩
  have HW : Hid (Gr w W) := by rw [hW]; exact ((Gr.refl w).al _).al _
  have a0 : W.cell? ⟨w.heap.size, 0, none⟩ = some (.int .i64 s.1) := by rw [hW]; go_simp
  have a1 : W.cell? ⟨w.heap.size, 1, none⟩ = some (.int .i64 s.2.1) := by rw [hW]; go_simp
  have a2 : W.cell? ⟨w.heap.size, 2, none⟩ = some (.int .i64 s.2.2) := by rw [hW]; go_simp
  have b0 : W.cell? ⟨w.heap.size + 1, 0, none⟩ = some (.int .i64 t.1) := by rw [hW]; go_simp
  have b1 : W.cell? ⟨w.heap.size + 1, 1, none⟩ = some (.int .i64 t.2.1) := by rw [hW]; go_simp
  have b2 : W.cell? ⟨w.heap.size + 1, 2, none⟩ = some (.int .i64 t.2.2) := by rw [hW]; go_simp
  rw [← hW]
  clear hW
  have F1 : Hid (0 ≤ 0) := Nat.le_refl _
  have F2 : Hid (0 ≤ 0) := Nat.le_refl _
  go_region_held3 (fun w' => w'.cell? ⟨w.heap.size, 0, none⟩ = some (.int .i64 s.1) ∧ w'.cell? ⟨w.heap.size, 1, none⟩ = some (.int .i64 s.2.1) ∧ w'.cell? ⟨w.heap.size, 2, none⟩ = some (.int .i64 s.2.2) ∧ w'.cell? ⟨w.heap.size + 1, 0, none⟩ = some (.int .i64 t.1) ∧ w'.cell? ⟨w.heap.size + 1, 1, none⟩ = some (.int .i64 t.2.1) ∧ w'.cell? ⟨w.heap.size + 1, 2, none⟩ = some (.int .i64 t.2.2))
    (first
      | go_keep)
    (first
      | (go_at_call 67; clear F1; refine (cmpInt_any s.1 t.1 _).mono ?_; rintro e w1 ⟨rfl, rfl⟩)
      | (go_at_call 67; clear F2; refine (cmpInt_any s.2.1 t.2.1 _).mono ?_; rintro e w1 ⟨rfl, rfl⟩)
      | (go_at_call 67; refine (cmpInt_any s.2.2 t.2.2 _).mono ?_; rintro e w1 ⟨rfl, rfl⟩)
      | (go_at_call 66; refine (or3 (sgn (s.1 - t.1)) (sgn (s.2.1 - t.2.1)) (sgn (s.2.2 - t.2.2)) W.heap.size _ (by go_simp) (by go_simp) (by go_simp)).mono ?_; rintro e w1 ⟨rfl, rfl⟩))
  go_wp2_with fail
  go_ret
  exact ⟨rfl, (HW.out.al _).dr⟩

end Go.Proofs.YtgeoffpcmkofkaaGreat
/- The library's sort by a comparison, at points, triangles and directed sides: where its functions and types stand in this program. -/
namespace Go.Proofs.YtgeoffpcmkofkaaGreat
open Go.Shelf
def Tryz.sortP_ren : Go.Shelf.Ren := ⟨fun | 6 => 41 | 15 => 65 | 14 => 64 | 28 => 86 | 29 => 87 | 20 => 78 | 21 => 79 | 22 => 80 | 23 => 81 | 24 => 82 | 25 => 83 | 26 => 84 | 27 => 85 | 46 => 101 | 47 => 102 | 48 => 103 | 49 => 104 | 50 => 105 | 57 => 117 | n => n, fun | 22 => 22 | 24 => 36 | 25 => 68 | 3 => 3 | 39 => 101 | 0 => 0 | 53 => 122 | 55 => 108 | 4 => 4 | 46 => 116 | 45 => 115 | 50 => 57 | 5 => 5 | 9 => 9 | 66 => 132 | 70 => 136 | 76 => 145 | 77 => 146 | n => n, fun | n => n⟩
theorem Tryz.sortP : Go.Proofs.SlLaysF0.n6 Tryz.prog Tryz.sortP_ren := {
  mixed := by kernel_rfl
  f6 := ⟨Tryz.f41.name, by decide, Tryz.func41.trans (congrArg some (by kernel_rfl))⟩
  f14 := ⟨Tryz.f64.name, by decide, Tryz.func64.trans (congrArg some (by kernel_rfl))⟩
  f15 := Tryz.func65.trans (congrArg some (by kernel_rfl))
  f20 := ⟨Tryz.f78.name, by decide, Tryz.func78.trans (congrArg some (by kernel_rfl))⟩
  f21 := ⟨Tryz.f79.name, by decide, Tryz.func79.trans (congrArg some (by kernel_rfl))⟩
  f22 := ⟨Tryz.f80.name, by decide, Tryz.func80.trans (congrArg some (by kernel_rfl))⟩
  f23 := ⟨Tryz.f81.name, by decide, Tryz.func81.trans (congrArg some (by kernel_rfl))⟩
  f24 := ⟨Tryz.f82.name, by decide, Tryz.func82.trans (congrArg some (by kernel_rfl))⟩
  f25 := ⟨Tryz.f83.name, by decide, Tryz.func83.trans (congrArg some (by kernel_rfl))⟩
  f26 := ⟨Tryz.f84.name, by decide, Tryz.func84.trans (congrArg some (by kernel_rfl))⟩
  f27 := ⟨Tryz.f85.name, by decide, Tryz.func85.trans (congrArg some (by kernel_rfl))⟩
  f28 := Tryz.func86.trans (congrArg some (by kernel_rfl))
  f29 := Tryz.func87.trans (congrArg some (by kernel_rfl))
  f46 := ⟨Tryz.f101.name, by decide, Tryz.func101.trans (congrArg some (by kernel_rfl))⟩
  f47 := Tryz.func102.trans (congrArg some (by kernel_rfl))
  f48 := Tryz.func103.trans (congrArg some (by kernel_rfl))
  f49 := ⟨Tryz.f104.name, by decide, Tryz.func104.trans (congrArg some (by kernel_rfl))⟩
  f50 := ⟨Tryz.f105.name, by decide, Tryz.func105.trans (congrArg some (by kernel_rfl))⟩
  f57 := ⟨Tryz.f117.name, by decide, Tryz.func117.trans (congrArg some (by kernel_rfl))⟩
  t0 := Tryz.underlying0
  a0 := Tryz.isAgg0
  z0 := Tryz.sizeOf0
  v0 := Tryz.zeroValue0
  t3 := Tryz.underlying3
  a3 := Tryz.isAgg3
  z3 := Tryz.sizeOf3
  v3 := Tryz.zeroValue3
  t4 := Tryz.underlying4
  a4 := Tryz.isAgg4
  z4 := Tryz.sizeOf4
  v4 := Tryz.zeroValue4
  t5 := Tryz.underlying5
  a5 := Tryz.isAgg5
  z5 := Tryz.sizeOf5
  v5 := Tryz.zeroValue5
  t9 := Tryz.underlying9
  a9 := Tryz.isAgg9
  z9 := Tryz.sizeOf9
  v9 := Tryz.zeroValue9
  t22 := Tryz.underlying22
  a22 := Tryz.isAgg22
  z22 := Tryz.sizeOf22
  v22 := Tryz.zeroValue22
  t25 := Tryz.underlying68
  a25 := Tryz.isAgg68
  z25 := Tryz.sizeOf68
  v25 := Tryz.zeroValue68
  t39 := Tryz.underlying101
  a39 := Tryz.isAgg101
  z39 := Tryz.sizeOf101
  v39 := Tryz.zeroValue101
  t45 := Tryz.underlying115
  a45 := Tryz.isAgg115
  z45 := Tryz.sizeOf115
  v45 := Tryz.zeroValue115
  t46 := Tryz.underlying116
  a46 := Tryz.isAgg116
  z46 := Tryz.sizeOf116
  v46 := Tryz.zeroValue116
  t50 := Tryz.underlying57
  a50 := Tryz.isAgg57
  z50 := Tryz.sizeOf57
  v50 := Tryz.zeroValue57
  t53 := Tryz.underlying122
  a53 := Tryz.isAgg122
  z53 := Tryz.sizeOf122
  v53 := Tryz.zeroValue122
  t55 := Tryz.underlying108
  a55 := Tryz.isAgg108
  z55 := Tryz.sizeOf108
  v55 := Tryz.zeroValue108
  t66 := Tryz.underlying132
  a66 := Tryz.isAgg132
  z66 := Tryz.sizeOf132
  v66 := Tryz.zeroValue132
  t70 := Tryz.underlying136
  a70 := Tryz.isAgg136
  z70 := Tryz.sizeOf136
  v70 := Tryz.zeroValue136
  t76 := Tryz.underlying145
  a76 := Tryz.isAgg145
  z76 := Tryz.sizeOf145
  v76 := Tryz.zeroValue145
  t77 := Tryz.underlying146
  a77 := Tryz.isAgg146
  z77 := Tryz.sizeOf146
  v77 := Tryz.zeroValue146 }
def Tryz.sortT_ren : Go.Shelf.Ren := ⟨fun | 6 => 49 | 15 => 65 | 14 => 71 | 28 => 86 | 29 => 87 | 20 => 91 | 21 => 92 | 22 => 93 | 23 => 94 | 24 => 95 | 25 => 96 | 26 => 97 | 27 => 98 | 46 => 114 | 47 => 102 | 48 => 103 | 49 => 115 | 50 => 116 | 57 => 121 | n => n, fun | 22 => 25 | 24 => 33 | 25 => 77 | 3 => 3 | 39 => 101 | 0 => 0 | 53 => 122 | 55 => 108 | 4 => 4 | 46 => 116 | 45 => 115 | 50 => 57 | 5 => 5 | 9 => 9 | 66 => 132 | 70 => 136 | 76 => 145 | 77 => 146 | n => n, fun | n => n⟩
theorem Tryz.sortT : Go.Proofs.SlLaysF0.n6 Tryz.prog Tryz.sortT_ren := {
  mixed := by kernel_rfl
  f6 := ⟨Tryz.f49.name, by decide, Tryz.func49.trans (congrArg some (by kernel_rfl))⟩
  f14 := ⟨Tryz.f71.name, by decide, Tryz.func71.trans (congrArg some (by kernel_rfl))⟩
  f15 := Tryz.func65.trans (congrArg some (by kernel_rfl))
  f20 := ⟨Tryz.f91.name, by decide, Tryz.func91.trans (congrArg some (by kernel_rfl))⟩
  f21 := ⟨Tryz.f92.name, by decide, Tryz.func92.trans (congrArg some (by kernel_rfl))⟩
  f22 := ⟨Tryz.f93.name, by decide, Tryz.func93.trans (congrArg some (by kernel_rfl))⟩
  f23 := ⟨Tryz.f94.name, by decide, Tryz.func94.trans (congrArg some (by kernel_rfl))⟩
  f24 := ⟨Tryz.f95.name, by decide, Tryz.func95.trans (congrArg some (by kernel_rfl))⟩
  f25 := ⟨Tryz.f96.name, by decide, Tryz.func96.trans (congrArg some (by kernel_rfl))⟩
  f26 := ⟨Tryz.f97.name, by decide, Tryz.func97.trans (congrArg some (by kernel_rfl))⟩
  f27 := ⟨Tryz.f98.name, by decide, Tryz.func98.trans (congrArg some (by kernel_rfl))⟩
  f28 := Tryz.func86.trans (congrArg some (by kernel_rfl))
  f29 := Tryz.func87.trans (congrArg some (by kernel_rfl))
  f46 := ⟨Tryz.f114.name, by decide, Tryz.func114.trans (congrArg some (by kernel_rfl))⟩
  f47 := Tryz.func102.trans (congrArg some (by kernel_rfl))
  f48 := Tryz.func103.trans (congrArg some (by kernel_rfl))
  f49 := ⟨Tryz.f115.name, by decide, Tryz.func115.trans (congrArg some (by kernel_rfl))⟩
  f50 := ⟨Tryz.f116.name, by decide, Tryz.func116.trans (congrArg some (by kernel_rfl))⟩
  f57 := ⟨Tryz.f121.name, by decide, Tryz.func121.trans (congrArg some (by kernel_rfl))⟩
  t0 := Tryz.underlying0
  a0 := Tryz.isAgg0
  z0 := Tryz.sizeOf0
  v0 := Tryz.zeroValue0
  t3 := Tryz.underlying3
  a3 := Tryz.isAgg3
  z3 := Tryz.sizeOf3
  v3 := Tryz.zeroValue3
  t4 := Tryz.underlying4
  a4 := Tryz.isAgg4
  z4 := Tryz.sizeOf4
  v4 := Tryz.zeroValue4
  t5 := Tryz.underlying5
  a5 := Tryz.isAgg5
  z5 := Tryz.sizeOf5
  v5 := Tryz.zeroValue5
  t9 := Tryz.underlying9
  a9 := Tryz.isAgg9
  z9 := Tryz.sizeOf9
  v9 := Tryz.zeroValue9
  t22 := Tryz.underlying25
  a22 := Tryz.isAgg25
  z22 := Tryz.sizeOf25
  v22 := Tryz.zeroValue25
  t25 := Tryz.underlying77
  a25 := Tryz.isAgg77
  z25 := Tryz.sizeOf77
  v25 := Tryz.zeroValue77
  t39 := Tryz.underlying101
  a39 := Tryz.isAgg101
  z39 := Tryz.sizeOf101
  v39 := Tryz.zeroValue101
  t45 := Tryz.underlying115
  a45 := Tryz.isAgg115
  z45 := Tryz.sizeOf115
  v45 := Tryz.zeroValue115
  t46 := Tryz.underlying116
  a46 := Tryz.isAgg116
  z46 := Tryz.sizeOf116
  v46 := Tryz.zeroValue116
  t50 := Tryz.underlying57
  a50 := Tryz.isAgg57
  z50 := Tryz.sizeOf57
  v50 := Tryz.zeroValue57
  t53 := Tryz.underlying122
  a53 := Tryz.isAgg122
  z53 := Tryz.sizeOf122
  v53 := Tryz.zeroValue122
  t55 := Tryz.underlying108
  a55 := Tryz.isAgg108
  z55 := Tryz.sizeOf108
  v55 := Tryz.zeroValue108
  t66 := Tryz.underlying132
  a66 := Tryz.isAgg132
  z66 := Tryz.sizeOf132
  v66 := Tryz.zeroValue132
  t70 := Tryz.underlying136
  a70 := Tryz.isAgg136
  z70 := Tryz.sizeOf136
  v70 := Tryz.zeroValue136
  t76 := Tryz.underlying145
  a76 := Tryz.isAgg145
  z76 := Tryz.sizeOf145
  v76 := Tryz.zeroValue145
  t77 := Tryz.underlying146
  a77 := Tryz.isAgg146
  z77 := Tryz.sizeOf146
  v77 := Tryz.zeroValue146 }
def Tryz.sortE_ren : Go.Shelf.Ren := ⟨fun | 6 => 69 | 15 => 65 | 14 => 90 | 28 => 86 | 29 => 87 | 20 => 106 | 21 => 107 | 22 => 108 | 23 => 109 | 24 => 110 | 25 => 111 | 26 => 112 | 27 => 113 | 46 => 118 | 47 => 102 | 48 => 103 | 49 => 119 | 50 => 120 | 57 => 122 | n => n, fun | 22 => 62 | 24 => 65 | 25 => 73 | 3 => 3 | 39 => 101 | 0 => 0 | 53 => 122 | 55 => 108 | 4 => 4 | 46 => 116 | 45 => 115 | 50 => 57 | 5 => 5 | 9 => 9 | 66 => 132 | 70 => 136 | 76 => 145 | 77 => 146 | n => n, fun | n => n⟩
theorem Tryz.sortE : Go.Proofs.SlLaysF0.n6 Tryz.prog Tryz.sortE_ren := {
  mixed := by kernel_rfl
  f6 := ⟨Tryz.f69.name, by decide, Tryz.func69.trans (congrArg some (by kernel_rfl))⟩
  f14 := ⟨Tryz.f90.name, by decide, Tryz.func90.trans (congrArg some (by kernel_rfl))⟩
  f15 := Tryz.func65.trans (congrArg some (by kernel_rfl))
  f20 := ⟨Tryz.f106.name, by decide, Tryz.func106.trans (congrArg some (by kernel_rfl))⟩
  f21 := ⟨Tryz.f107.name, by decide, Tryz.func107.trans (congrArg some (by kernel_rfl))⟩
  f22 := ⟨Tryz.f108.name, by decide, Tryz.func108.trans (congrArg some (by kernel_rfl))⟩
  f23 := ⟨Tryz.f109.name, by decide, Tryz.func109.trans (congrArg some (by kernel_rfl))⟩
  f24 := ⟨Tryz.f110.name, by decide, Tryz.func110.trans (congrArg some (by kernel_rfl))⟩
  f25 := ⟨Tryz.f111.name, by decide, Tryz.func111.trans (congrArg some (by kernel_rfl))⟩
  f26 := ⟨Tryz.f112.name, by decide, Tryz.func112.trans (congrArg some (by kernel_rfl))⟩
  f27 := ⟨Tryz.f113.name, by decide, Tryz.func113.trans (congrArg some (by kernel_rfl))⟩
  f28 := Tryz.func86.trans (congrArg some (by kernel_rfl))
  f29 := Tryz.func87.trans (congrArg some (by kernel_rfl))
  f46 := ⟨Tryz.f118.name, by decide, Tryz.func118.trans (congrArg some (by kernel_rfl))⟩
  f47 := Tryz.func102.trans (congrArg some (by kernel_rfl))
  f48 := Tryz.func103.trans (congrArg some (by kernel_rfl))
  f49 := ⟨Tryz.f119.name, by decide, Tryz.func119.trans (congrArg some (by kernel_rfl))⟩
  f50 := ⟨Tryz.f120.name, by decide, Tryz.func120.trans (congrArg some (by kernel_rfl))⟩
  f57 := ⟨Tryz.f122.name, by decide, Tryz.func122.trans (congrArg some (by kernel_rfl))⟩
  t0 := Tryz.underlying0
  a0 := Tryz.isAgg0
  z0 := Tryz.sizeOf0
  v0 := Tryz.zeroValue0
  t3 := Tryz.underlying3
  a3 := Tryz.isAgg3
  z3 := Tryz.sizeOf3
  v3 := Tryz.zeroValue3
  t4 := Tryz.underlying4
  a4 := Tryz.isAgg4
  z4 := Tryz.sizeOf4
  v4 := Tryz.zeroValue4
  t5 := Tryz.underlying5
  a5 := Tryz.isAgg5
  z5 := Tryz.sizeOf5
  v5 := Tryz.zeroValue5
  t9 := Tryz.underlying9
  a9 := Tryz.isAgg9
  z9 := Tryz.sizeOf9
  v9 := Tryz.zeroValue9
  t22 := Tryz.underlying62
  a22 := Tryz.isAgg62
  z22 := Tryz.sizeOf62
  v22 := Tryz.zeroValue62
  t25 := Tryz.underlying73
  a25 := Tryz.isAgg73
  z25 := Tryz.sizeOf73
  v25 := Tryz.zeroValue73
  t39 := Tryz.underlying101
  a39 := Tryz.isAgg101
  z39 := Tryz.sizeOf101
  v39 := Tryz.zeroValue101
  t45 := Tryz.underlying115
  a45 := Tryz.isAgg115
  z45 := Tryz.sizeOf115
  v45 := Tryz.zeroValue115
  t46 := Tryz.underlying116
  a46 := Tryz.isAgg116
  z46 := Tryz.sizeOf116
  v46 := Tryz.zeroValue116
  t50 := Tryz.underlying57
  a50 := Tryz.isAgg57
  z50 := Tryz.sizeOf57
  v50 := Tryz.zeroValue57
  t53 := Tryz.underlying122
  a53 := Tryz.isAgg122
  z53 := Tryz.sizeOf122
  v53 := Tryz.zeroValue122
  t55 := Tryz.underlying108
  a55 := Tryz.isAgg108
  z55 := Tryz.sizeOf108
  v55 := Tryz.zeroValue108
  t66 := Tryz.underlying132
  a66 := Tryz.isAgg132
  z66 := Tryz.sizeOf132
  v66 := Tryz.zeroValue132
  t70 := Tryz.underlying136
  a70 := Tryz.isAgg136
  z70 := Tryz.sizeOf136
  v70 := Tryz.zeroValue136
  t76 := Tryz.underlying145
  a76 := Tryz.isAgg145
  z76 := Tryz.sizeOf145
  v76 := Tryz.zeroValue145
  t77 := Tryz.underlying146
  a77 := Tryz.isAgg146
  z77 := Tryz.sizeOf146
  v77 := Tryz.zeroValue146 }
end Go.Proofs.YtgeoffpcmkofkaaGreat
