/- Flips end, for each takes points out of circles; where no side is wrong no circle holds a point. -/
import Derived.Test.YtgeoffpcmkofkaaGreatTa
namespace Go.Proofs.YtgeoffpcmkofkaaGreat

/-! ### How many points lie within the circles -/
def cnt (S : List Pt) (u v w : Pt) : Nat := S.countP fun x => decide (0 < C u v w x)
def costV (S : List Pt) (e : Ed) : Option Pt → Nat
  | none => 0
  | some w => cnt S e.1 e.2 w
def tot (L : List Ed) (S : List Pt) (m : Ms) : Nat := (L.map fun e => costV S e (m e)).sum

theorem tot_same {L : List Ed} {S : List Pt} {m m' : Ms} (h : ∀ e ∈ L, m' e = m e) : tot L S m' = tot L S m := by
  unfold tot
  congr 1
  apply List.map_congr_left
  intro e he
  rw [h e he]
theorem tot_one {S : List Pt} {m m' : Ms} {k : Ed} : ∀ {L : List Ed}, L.Nodup → k ∈ L → (∀ e, e ≠ k → m' e = m e) → tot L S m' + costV S k (m k) = tot L S m + costV S k (m' k)
  | [], _, h, _ => by simp at h
  | e :: L, hn, h, hs => by
    rw [List.nodup_cons] at hn
    have e1 : tot (e :: L) S m' = costV S e (m' e) + tot L S m' := by simp [tot]
    have e2 : tot (e :: L) S m = costV S e (m e) + tot L S m := by simp [tot]
    rw [e1, e2]
    by_cases hk : e = k
    · subst hk
      have : tot L S m' = tot L S m := tot_same fun f hf => hs f (fun c => hn.1 (c ▸ hf))
      omega
    · have := tot_one (S := S) (m := m) (m' := m') hn.2 ((List.mem_cons.1 h).resolve_left (fun c => hk c.symm)) hs
      rw [hs e hk]
      omega
theorem tot_set {L : List Ed} {S : List Pt} {m : Ms} {k : Ed} {c : Pt} (hn : L.Nodup) (hk : k ∈ L) : tot L S (setM m k c) + costV S k (m k) = tot L S m + costV S k (some c) := by
  have := tot_one (S := S) (m := m) (m' := setM m k c) hn hk (fun e he => by simp [setM, he])
  have e : setM m k c k = some c := by simp [setM]
  rw [e] at this; exact this
theorem tot_del {L : List Ed} {S : List Pt} {m : Ms} {k : Ed} (hn : L.Nodup) (hk : k ∈ L) : tot L S (delM m k) + costV S k (m k) = tot L S m := by
  have := tot_one (S := S) (m := m) (m' := delM m k) hn hk (fun e he => by simp [delM, he])
  have e : delM m k k = none := by simp [delM]
  rw [e] at this; exact this

theorem cnt_turn (S : List Pt) (u v w : Pt) : cnt S v w u = cnt S u v w := by
  unfold cnt; congr 1; funext x; rw [C_turn]
theorem cnt_turn' (S : List Pt) (u v w : Pt) : cnt S w u v = cnt S u v w := by
  unfold cnt; congr 1; funext x; rw [C_turn']

theorem cnt_flip {a b l r : Pt} (h1 : 0 < D a b l) (h2 : 0 < D b a r) (hc : 0 < C a b l r) : ∀ S : List Pt, cnt S a r l + cnt S b l r + (if r ∈ S then 1 else 0) ≤ cnt S a b l + cnt S b a r
  | [] => by simp [cnt]
  | x :: S => by
    have ih := cnt_flip h1 h2 hc S
    obtain ⟨p1, p2⟩ := flip_pt h1 h2 hc x
    have e : ∀ u v w, cnt (x :: S) u v w = cnt S u v w + if 0 < C u v w x then 1 else 0 := by
      intro u v w; unfold cnt; rw [List.countP_cons]; simp
    rw [e, e, e, e]
    by_cases hx : r = x
    · subst hx
      have z1 : C a r l r = 0 := C_second a r l
      have z2 : C b l r r = 0 := C_self b l r
      rw [z1, z2]
      simp only [List.mem_cons, true_or, if_true]
      rw [if_pos hc]
      simp only [Int.lt_irrefl, if_false]
      have : (if r ∈ S then 1 else 0) ≤ 1 := by split <;> omega
      omega
    · have : (r ∈ x :: S) ↔ (r ∈ S) := by simp [hx]
      simp only [this]
      by_cases c3 : 0 < C a r l x <;> by_cases c4 : 0 < C b l r x <;> by_cases c1 : 0 < C a b l x <;> by_cases c2 : 0 < C b a r x <;> simp only [c1, c2, c3, c4, if_true, if_false] <;> simp_all <;> omega

/-- A FLIP TAKES POINTS OUT OF CIRCLES. -/
theorem tot_flip {L : List Ed} {S : List Pt} {m : Ms} {a b l r : Pt} (hn : L.Nodup) (hL : ∀ u ∈ S, ∀ v ∈ S, (u, v) ∈ L) (h : Ok S m) (hl : m (a, b) = some l) (hr : m (b, a) = some r) (hc : 0 < C a b l r) :
    tot L S (flipM m a b l r) < tot L S m := by
  have h1 := h.pos _ _ _ hl
  have h2 := h.pos _ _ _ hr
  have ha := apart_of h1 h2 hc
  have e1 := h.rot _ _ _ hl; have e2 := h.rot' hl; have e3 := h.rot _ _ _ hr; have e4 := h.rot' hr
  obtain ⟨n1, n2⟩ := h.no_lr hl hr hc
  obtain ⟨aS, bS, lS⟩ := h.mem _ _ _ hl
  have rS := (h.mem _ _ _ hr).2.2
  have hcnt := cnt_flip h1 h2 hc S
  rw [if_pos rS] at hcnt
  unfold flipM addM
  obtain ⟨q1, q2, q3, q4, q5, q6⟩ := ha
  have t1 := tot_del (S := S) (m := m) hn (hL a aS b bS)
  have t2 := tot_del (S := S) (m := delM m (a, b)) hn (hL b bS a aS)
  have t3 := tot_set (S := S) (m := delM (delM m (a, b)) (b, a)) (c := l) hn (hL a aS r rS)
  have t4 := tot_set (S := S) (m := setM (delM (delM m (a, b)) (b, a)) (a, r) l) (c := a) hn (hL r rS l lS)
  have t5 := tot_set (S := S) (m := setM (setM (delM (delM m (a, b)) (b, a)) (a, r) l) (r, l) a) (c := r) hn (hL l lS a aS)
  have t6 := tot_set (S := S) (m := setM (setM (setM (delM (delM m (a, b)) (b, a)) (a, r) l) (r, l) a) (l, a) r) (c := r) hn (hL b bS l lS)
  have t7 := tot_set (S := S) (m := setM (setM (setM (setM (delM (delM m (a, b)) (b, a)) (a, r) l) (r, l) a) (l, a) r) (b, l) r) (c := b) hn (hL l lS r rS)
  have t8 := tot_set (S := S) (m := setM (setM (setM (setM (setM (delM (delM m (a, b)) (b, a)) (a, r) l) (r, l) a) (l, a) r) (b, l) r) (l, r) b) (c := l) hn (hL r rS b bS)
  have v2 : (delM m (a, b)) (b, a) = some r := by simp [delM, hr]; grind
  have v3 : (delM (delM m (a, b)) (b, a)) (a, r) = some b := by simp [delM]; grind
  have v4 : (setM (delM (delM m (a, b)) (b, a)) (a, r) l) (r, l) = none := by simp [delM, setM]; grind
  have v5 : (setM (setM (delM (delM m (a, b)) (b, a)) (a, r) l) (r, l) a) (l, a) = some b := by simp [delM, setM]; grind
  have v6 : (setM (setM (setM (delM (delM m (a, b)) (b, a)) (a, r) l) (r, l) a) (l, a) r) (b, l) = some a := by simp [delM, setM]; grind
  have v7 : (setM (setM (setM (setM (delM (delM m (a, b)) (b, a)) (a, r) l) (r, l) a) (l, a) r) (b, l) r) (l, r) = none := by simp [delM, setM]; grind
  have v8 : (setM (setM (setM (setM (setM (delM (delM m (a, b)) (b, a)) (a, r) l) (r, l) a) (l, a) r) (b, l) r) (l, r) b) (r, b) = some a := by simp [delM, setM]; grind
  rw [hl] at t1
  rw [v2] at t2
  rw [v3] at t3
  rw [v4] at t4
  rw [v5] at t5
  rw [v6] at t6
  rw [v7] at t7
  rw [v8] at t8
  simp only [costV] at *
  have c1 : cnt S l a b = cnt S a b l := cnt_turn' S a b l
  have c2 : cnt S b l a = cnt S a b l := cnt_turn S a b l
  have c3 : cnt S a r b = cnt S b a r := cnt_turn S b a r
  have c4 : cnt S r b a = cnt S b a r := cnt_turn' S b a r
  have c5 : cnt S r l a = cnt S a r l := cnt_turn S a r l
  have c6 : cnt S l a r = cnt S a r l := cnt_turn' S a r l
  have c7 : cnt S l r b = cnt S b l r := cnt_turn S b l r
  have c8 : cnt S r b l = cnt S b l r := cnt_turn' S b l r
  omega

theorem tot_le (L : List Ed) (S : List Pt) (m : Ms) : tot L S m ≤ L.length * S.length := by
  induction L with
  | nil => simp [tot]
  | cons e L ih =>
    have e1 : tot (e :: L) S m = costV S e (m e) + tot L S m := by simp [tot]
    have : costV S e (m e) ≤ S.length := by
      cases m e with
      | none => simp [costV]
      | some w => exact List.countP_le_length
    rw [e1, List.length_cons, Nat.add_mul, Nat.one_mul]
    omega

/-! ### Flips, one after the other -/
def wrong (m : Ms) (e : Ed) : Bool := match m e, m (e.2, e.1) with
  | some l, some r => decide (0 < C e.1 e.2 l r)
  | _, _ => false
abbrev St := Ms × List Ed
def turned (m : Ms) (e : Ed) : Ms := match m e, m (e.2, e.1) with
  | some l, some r => flipM m e.1 e.2 l r
  | _, _ => m
def around (m : Ms) (e : Ed) : List Ed := match m e, m (e.2, e.1) with
  | some l, some r => [(e.1, r), (r, e.2), (e.2, l), (l, e.1)]
  | _, _ => []
def step (s : St) : St := match s.2.getLast? with
  | none => s
  | some e => if wrong s.1 e then (turned s.1 e, s.2.dropLast ++ around s.1 e) else (s.1, s.2.dropLast)
def steps : Nat → St → St
  | 0, s => s
  | n + 1, s => step (steps n s)
theorem steps_add (n k : Nat) (s : St) : steps (n + k) s = steps k (steps n s) := by
  induction k with
  | zero => rfl
  | succ k ih => rw [Nat.add_succ]; unfold steps; rw [ih]
theorem step_nil {s : St} (h : s.2 = []) : step s = s := by unfold step; rw [h]; rfl
theorem steps_nil {s : St} (h : s.2 = []) (n : Nat) : steps n s = s := by
  induction n with
  | zero => rfl
  | succ n ih => unfold steps; rw [ih, step_nil h]
theorem steps_end {s : St} {n k : Nat} (hn : (steps n s).2 = []) (hk : (steps k s).2 = []) : steps n s = steps k s := by
  rcases Nat.le_total n k with h | h
  · obtain ⟨d, rfl⟩ := Nat.exists_eq_add_of_le h
    rw [steps_add, steps_nil hn]
  · obtain ⟨d, rfl⟩ := Nat.exists_eq_add_of_le h
    rw [steps_add, steps_nil hk]

theorem wrong_inv {m : Ms} {e : Ed} (h : wrong m e = true) : ∃ l r, m (e.1, e.2) = some l ∧ m (e.2, e.1) = some r ∧ 0 < C e.1 e.2 l r := by
  obtain ⟨a, b⟩ := e
  unfold wrong at h
  cases h1 : m (a, b) with
  | none => rw [h1] at h; cases h
  | some l =>
    cases h2 : m (b, a) with
    | none => rw [h1] at h; simp only [h2] at h; cases h
    | some r => rw [h1] at h; simp only [h2] at h; exact ⟨l, r, rfl, rfl, by simpa using h⟩
theorem wrong_mk {m : Ms} {a b l r : Pt} (h1 : m (a, b) = some l) (h2 : m (b, a) = some r) : wrong m (a, b) = decide (0 < C a b l r) := by
  unfold wrong; simp only [h1, h2]
theorem wrong_rev (m : Ms) (a b : Pt) : wrong m (b, a) = wrong m (a, b) := by
  unfold wrong
  simp only
  cases h1 : m (a, b) <;> cases h2 : m (b, a) <;> simp [C_rev]
theorem turned_eq {m : Ms} {a b l r : Pt} (h1 : m (a, b) = some l) (h2 : m (b, a) = some r) : turned m (a, b) = flipM m a b l r := by
  unfold turned; simp only [h1, h2]
theorem around_eq {m : Ms} {a b l r : Pt} (h1 : m (a, b) = some l) (h2 : m (b, a) = some r) : around m (a, b) = [(a, r), (r, b), (b, l), (l, a)] := by
  unfold around; simp only [h1, h2]

theorem C_diag (a b l r : Pt) : C r l a b = -C a b l r := by unfold C cdet; grind
theorem C_diag' (a b l r : Pt) : C l r b a = -C a b l r := by unfold C cdet; grind

/-- Between two steps: all is as it must be, and what is wrong is still to be looked at. -/
structure Inv (S : List Pt) (s : St) : Prop where
  ok : Ok S s.1
  wr : ∀ u v, wrong s.1 (u, v) = true → (u, v) ∈ s.2 ∨ (v, u) ∈ s.2

theorem last_cases (o : List Ed) : o = [] ∨ ∃ o' e, o = o' ++ [e] := by
  rcases List.eq_nil_or_concat o with h | ⟨o', e, h⟩
  · exact .inl h
  · exact .inr ⟨o', e, by rw [h, List.concat_eq_append]⟩
theorem step_keep {m : Ms} {o : List Ed} {e : Ed} (h : wrong m e = false) : step (m, o ++ [e]) = (m, o) := by
  unfold step; simp [h]
theorem step_flip {m : Ms} {o : List Ed} {a b l r : Pt} (h1 : m (a, b) = some l) (h2 : m (b, a) = some r) (hc : 0 < C a b l r) : step (m, o ++ [(a, b)]) = (flipM m a b l r, o ++ [(a, r), (r, b), (b, l), (l, a)]) := by
  have hw : wrong m (a, b) = true := by rw [wrong_mk h1 h2]; simpa using hc
  unfold step; simp [hw, turned_eq h1 h2, around_eq h1 h2]

theorem inv_keep {S : List Pt} {m : Ms} {o : List Ed} {e : Ed} (h : Inv S (m, o ++ [e])) (hw : wrong m e = false) : Inv S (m, o) := by
  refine ⟨h.ok, fun u v hu => ?_⟩
  have := h.wr u v hu
  simp only [List.mem_append, List.mem_singleton] at this
  rcases this with (k | k) | (k | k)
  · exact .inl k
  · rw [k] at hu; rw [hw] at hu; cases hu
  · exact .inr k
  · rw [← wrong_rev, k] at hu; rw [hw] at hu; cases hu

theorem inv_flip {S : List Pt} {m : Ms} {o : List Ed} {a b l r : Pt} (h : Inv S (m, o ++ [(a, b)])) (h1 : m (a, b) = some l) (h2 : m (b, a) = some r) (hc : 0 < C a b l r) :
    Inv S (flipM m a b l r, o ++ [(a, r), (r, b), (b, l), (l, a)]) := by
  have hok := h.ok
  have ha := apart_of (hok.pos _ _ _ h1) (hok.pos _ _ _ h2) hc
  refine ⟨flip_ok hok h1 h2 hc, fun u v hu => ?_⟩
  obtain ⟨w, w', e1, e2, e3⟩ := wrong_inv hu
  simp only at e1 e2 e3
  have i1 := flip_inv ha e1
  have i2 := flip_inv ha e2
  have d1 := C_diag a b l r
  have d2 := C_diag' a b l r
  have hA := flipM_eq (m := m) ha
  simp only [List.mem_append, List.mem_cons, Prod.mk.injEq, List.not_mem_nil, or_false]
  rcases i1 with ⟨rfl, rfl, rfl⟩ | ⟨rfl, rfl, rfl⟩ | ⟨rfl, rfl, rfl⟩ | ⟨rfl, rfl, rfl⟩ | ⟨rfl, rfl, rfl⟩ | ⟨rfl, rfl, rfl⟩ | ⟨k, k1, k2, k3, k4, k5, k6, k7, k8⟩
  · exact .inl (.inr (.inl ⟨rfl, rfl⟩))
  · exfalso
    have : flipM m w b v u (v, u) = some b := by rw [hA]; obtain ⟨q1, q2, q3, q4, q5, q6⟩ := ha; grind
    rw [this] at e2
    injection e2 with e2
    subst e2
    omega
  · exact .inl (.inr (.inr (.inr (.inr ⟨rfl, rfl⟩))))
  · exact .inl (.inr (.inr (.inr (.inl ⟨rfl, rfl⟩))))
  · exfalso
    have : flipM m a w u v (v, u) = some a := by rw [hA]; obtain ⟨q1, q2, q3, q4, q5, q6⟩ := ha; grind
    rw [this] at e2
    injection e2 with e2
    subst e2
    omega
  · exact .inl (.inr (.inr (.inl ⟨rfl, rfl⟩)))
  · rcases i2 with ⟨rfl, rfl, rfl⟩ | ⟨rfl, rfl, rfl⟩ | ⟨rfl, rfl, rfl⟩ | ⟨rfl, rfl, rfl⟩ | ⟨rfl, rfl, rfl⟩ | ⟨rfl, rfl, rfl⟩ | ⟨k', _, _, _, _, _, _, k7', k8'⟩
    · exact .inr (.inr (.inl ⟨rfl, rfl⟩))
    · exact absurd rfl k5
    · exact .inr (.inr (.inr (.inr (.inr ⟨rfl, rfl⟩))))
    · exact .inr (.inr (.inr (.inr (.inl ⟨rfl, rfl⟩))))
    · exact absurd rfl k2
    · exact .inr (.inr (.inr (.inl ⟨rfl, rfl⟩)))
    · have hw : wrong m (u, v) = true := by rw [wrong_mk k k']; simpa using e3
      have := h.wr u v hw
      simp only [List.mem_append, List.mem_singleton] at this
      rcases this with (p | p) | (p | p)
      · exact .inl (.inl p)
      · exact absurd p k7
      · exact .inr (.inl p)
      · exact absurd p k7'

def mu (L : List Ed) (S : List Pt) (s : St) : Nat := 5 * tot L S s.1 + s.2.length
theorem step_inv {S : List Pt} {s : St} (h : Inv S s) : Inv S (step s) := by
  obtain ⟨m, o⟩ := s
  rcases last_cases o with rfl | ⟨o', ⟨a, b⟩, rfl⟩
  · exact h
  · cases hw : wrong m (a, b) with
    | false => rw [step_keep hw]; exact inv_keep h hw
    | true =>
      obtain ⟨l, r, h1, h2, hc⟩ := wrong_inv hw
      rw [step_flip h1 h2 hc]; exact inv_flip h h1 h2 hc
theorem step_mu {L : List Ed} {S : List Pt} {s : St} (hn : L.Nodup) (hL : ∀ u ∈ S, ∀ v ∈ S, (u, v) ∈ L) (h : Inv S s) (hne : s.2 ≠ []) : mu L S (step s) < mu L S s := by
  obtain ⟨m, o⟩ := s
  rcases last_cases o with rfl | ⟨o', ⟨a, b⟩, rfl⟩
  · exact absurd rfl hne
  · cases hw : wrong m (a, b) with
    | false => rw [step_keep hw]; simp [mu]
    | true =>
      obtain ⟨l, r, h1, h2, hc⟩ := wrong_inv hw
      rw [step_flip h1 h2 hc]
      have := tot_flip hn hL h.ok h1 h2 hc
      simp only [mu, List.length_append, List.length_cons, List.length_nil]
      simp only at this
      omega
theorem steps_inv {S : List Pt} {s : St} (h : Inv S s) (n : Nat) : Inv S (steps n s) := by
  induction n with
  | zero => exact h
  | succ n ih => exact step_inv ih
theorem steps_mu {L : List Ed} {S : List Pt} {s : St} (hn : L.Nodup) (hL : ∀ u ∈ S, ∀ v ∈ S, (u, v) ∈ L) (h : Inv S s) : ∀ n, mu L S (steps n s) ≤ mu L S s
  | 0 => Nat.le_refl _
  | n + 1 => by
    have ih := steps_mu hn hL h n
    unfold steps
    by_cases he : (steps n s).2 = []
    · rw [step_nil he]; exact ih
    · have := step_mu hn hL (steps_inv h n) he
      omega
theorem steps_stop {L : List Ed} {S : List Pt} {s : St} (hn : L.Nodup) (hL : ∀ u ∈ S, ∀ v ∈ S, (u, v) ∈ L) (h : Inv S s) : (steps (mu L S s) s).2 = [] := by
  suffices H : ∀ n, (steps n s).2 = [] ∨ mu L S (steps n s) + n ≤ mu L S s by
    rcases H (mu L S s) with h | h
    · exact h
    · cases e : (steps (mu L S s) s).2 with
      | nil => rfl
      | cons x y =>
        have h0 : mu L S (steps (mu L S s) s) = 0 := by omega
        have h1 : (steps (mu L S s) s).2.length ≤ mu L S (steps (mu L S s) s) := by
          show _ ≤ 5 * _ + (steps (mu L S s) s).2.length
          omega
        rw [h0, e] at h1
        simp at h1
  intro n
  induction n with
  | zero => exact .inr (Nat.le_refl _)
  | succ n ih =>
    unfold steps
    by_cases he : (steps n s).2 = []
    · rw [step_nil he]; exact .inl he
    · rcases ih with ih | ih
      · exact absurd ih he
      · have := step_mu hn hL (steps_inv h n) he
        exact .inr (by omega)
/-- Nothing is wrong at the end. -/
theorem inv_end {S : List Pt} {s : St} (h : Inv S s) (he : s.2 = []) (e : Ed) : wrong s.1 e = false := by
  cases hw : wrong s.1 e with
  | false => rfl
  | true =>
    have := h.wr e.1 e.2 hw
    rw [he] at this
    simp at this

/-! ### Where nothing is wrong, no circle holds a point -/
theorem minRatio {α : Type} (f g : α → Int) : ∀ L : List α, (∀ x ∈ L, 0 < g x) → L ≠ [] → ∃ x ∈ L, ∀ y ∈ L, f x * g y ≤ f y * g x
  | [], _, h => absurd rfl h
  | [a], _, _ => ⟨a, by simp, fun y hy => by simp at hy; subst hy; omega⟩
  | a :: b :: L, hg, _ => by
    obtain ⟨x, hx, hm⟩ := minRatio f g (b :: L) (fun x hx => hg x (List.mem_cons_of_mem _ hx)) (by simp)
    have ga := hg a (by simp)
    have gx := hg x (List.mem_cons_of_mem _ hx)
    rcases Int.le_total (f x * g a) (f a * g x) with k | k
    · refine ⟨x, List.mem_cons_of_mem _ hx, fun y hy => ?_⟩
      rcases List.mem_cons.1 hy with rfl | hy
      · exact k
      · exact hm y hy
    · refine ⟨a, by simp, fun y hy => ?_⟩
      rcases List.mem_cons.1 hy with rfl | hy
      · omega
      · have gy := hg y (List.mem_cons_of_mem _ hy)
        have h1 := hm y hy
        -- f a * g x ≤ f x * g a, f x * g y ≤ f y * g x
        have e : 0 ≤ g x * (f y * g a - f a * g y) := by
          have e1 : g x * (f y * g a - f a * g y) = g a * (f y * g x - f x * g y) + g y * (f x * g a - f a * g x) := by grind
          rw [e1]
          have := mul_nn (Int.le_of_lt ga) (show 0 ≤ f y * g x - f x * g y by omega)
          have := mul_nn (Int.le_of_lt gy) (show 0 ≤ f x * g a - f a * g x by omega)
          omega
        have := nonneg_of_mul gx e
        omega

/-- All directed sides between points. -/
def pairs (S : List Pt) : List Ed := S.flatMap fun u => S.map fun v => (u, v)
theorem mem_pairs {S : List Pt} {u v : Pt} : (u, v) ∈ pairs S ↔ u ∈ S ∧ v ∈ S := by
  unfold pairs
  simp only [List.mem_flatMap, List.mem_map, Prod.mk.injEq]
  constructor
  · rintro ⟨a, ha, b, hb, rfl, rfl⟩; exact ⟨ha, hb⟩
  · rintro ⟨hu, hv⟩; exact ⟨u, hu, v, hv, rfl, rfl⟩

/-- A wrongly held point that lies beyond a side. -/
def bad (m : Ms) (x : Pt) (e : Ed) : Bool := match m e with
  | some w => decide (0 < C e.1 e.2 w x) && decide (D e.1 e.2 x < 0)
  | none => false
theorem bad_iff {m : Ms} {x u v : Pt} : bad m x (u, v) = true ↔ ∃ w, m (u, v) = some w ∧ 0 < C u v w x ∧ D u v x < 0 := by
  unfold bad
  cases m (u, v) with
  | none => simp
  | some w => simp

theorem dot_id1 (u v p x : Pt) : dot u v x * D v p x - dot p v x * D v u x = sq x v * D u p x := by unfold dot D det sq; grind
theorem dot_id2 (u v p x : Pt) : dot u v x * D p u x - dot u p x * D v u x = sq x u * D p v x := by unfold dot D det sq; grind

theorem cross_over {u v w p x : Pt} (h1 : 0 < D u v w) (h2 : D u v p < 0) (hx : D u v x < 0) (hc : 0 < C u v w x) (hl : C u v w p ≤ 0) : 0 < C v u p x := by
  rw [C_swap]
  have : 0 < D u v w * -C u v p x := by
    rw [C_cross] at *
    have e : D u v w * -(dot u v p * D u v x - dot u v x * D u v p) = (-D u v x) * -(dot u v w * D u v p - dot u v p * D u v w) + (-D u v p) * (dot u v w * D u v x - dot u v x * D u v w) := by grind
    rw [e]
    have a1 := mul_nn (show 0 ≤ -D u v x by omega) (show 0 ≤ -(dot u v w * D u v p - dot u v p * D u v w) by omega)
    have a2 := Int.mul_pos (show 0 < -D u v p by omega) hc
    omega
  exact pos_of_mul h1 this

theorem Ok.outside {S : List Pt} {m : Ms} (h : Ok S m) {u v w x : Pt} (hm : m (u, v) = some w) (hx : x ∈ S) (hc : 0 < C u v w x) : D u v x < 0 ∨ D v w x < 0 ∨ D w u x < 0 := by
  rcases lt_or_ge' (D u v x) 0 with g1 | g1
  · exact .inl g1
  · rcases lt_or_ge' (D v w x) 0 with g2 | g2
    · exact .inr (.inl g2)
    · rcases lt_or_ge' (D w u x) 0 with g3 | g3
      · exact .inr (.inr g3)
      · exfalso
        rcases h.empty u v w hm x hx g1 g2 g3 with e | e | e
        · rw [e, C_first] at hc; omega
        · rw [e, C_second] at hc; omega
        · rw [e, C_self] at hc; omega

theorem empty_all {S : List Pt} {m : Ms} (h : Ok S m) (hw : ∀ e, wrong m e = false) {u v w : Pt} (hm : m (u, v) = some w) {x : Pt} (hx : x ∈ S) : C u v w x ≤ 0 := by
  rcases lt_or_ge' 0 (C u v w x) with hc | hc
  · exfalso
    let L := (pairs S).filter (bad m x)
    have hL : ∀ {u v : Pt}, (u, v) ∈ L ↔ bad m x (u, v) = true := by
      intro u v
      simp only [L, List.mem_filter, mem_pairs]
      constructor
      · exact fun k => k.2
      · intro k
        obtain ⟨w, k1, _⟩ := bad_iff.1 k
        have := h.mem _ _ _ k1
        exact ⟨⟨this.1, this.2.1⟩, k⟩
    have hne : L ≠ [] := by
      rcases h.outside hm hx hc with g | g | g
      · exact List.ne_nil_of_mem (hL.2 (bad_iff.2 ⟨w, hm, hc, g⟩))
      · exact List.ne_nil_of_mem (hL.2 (bad_iff.2 ⟨u, h.rot _ _ _ hm, by rw [C_turn]; exact hc, g⟩))
      · exact List.ne_nil_of_mem (hL.2 (bad_iff.2 ⟨v, h.rot' hm, by rw [C_turn']; exact hc, g⟩))
    obtain ⟨⟨s, t⟩, hst, hmin⟩ := minRatio (fun e : Ed => dot e.1 e.2 x) (fun e : Ed => D e.2 e.1 x) L (fun ⟨s, t⟩ hs => by
      obtain ⟨_, _, _, k⟩ := bad_iff.1 (hL.1 hs)
      show 0 < D t s x
      rw [D_swap']; omega) hne
    obtain ⟨z, k1, k2, k3⟩ := bad_iff.1 (hL.1 hst)
    cases hp : m (t, s) with
    | none => have := h.hull s t z k1 hp x hx; omega
    | some p =>
      have hloc : C s t z p ≤ 0 := by
        have := hw (s, t)
        rw [wrong_mk k1 hp] at this
        simp at this; exact this
      have pz := h.pos _ _ _ k1
      have pp := h.pos _ _ _ hp
      have dp : D s t p < 0 := by rw [D_swap'] at pp; omega
      have hcx := cross_over pz dp k3 k2 hloc
      have out := h.outside hp hx hcx
      have dts : 0 < D t s x := by rw [D_swap']; omega
      -- not beyond both sides at p
      have nc : ¬(D s p x ≤ 0 ∧ D p t x ≤ 0) := fun ⟨g1, g2⟩ => by
        have := corner (a := p) (r := t) (l := s) (x := x) (by rw [D_turn']; exact pp) g1 g2
        rw [C_turn'] at this; omega
      rcases out with g | g | g
      · omega
      · -- beyond (s, p)
        have mem : (s, p) ∈ L := hL.2 (bad_iff.2 ⟨t, h.rot _ _ _ hp, by rw [C_turn]; exact hcx, g⟩)
        have hle := hmin (s, p) mem
        simp only at hle
        have e := dot_id2 s t p x
        have e2 : 0 < sq x s * D p t x := by
          refine Int.mul_pos (sq_pos fun k => ?_) (by omega)
          rw [k, D_same1] at k3; omega
        omega
      · have mem : (p, t) ∈ L := hL.2 (bad_iff.2 ⟨s, h.rot' hp, by rw [C_turn']; exact hcx, g⟩)
        have hle := hmin (p, t) mem
        simp only at hle
        have e := dot_id1 s t p x
        have e2 : 0 < sq x t * D s p x := by
          refine Int.mul_pos (sq_pos fun k => ?_) (by omega)
          rw [k, D_same2] at k3; omega
        omega
  · exact hc

end Go.Proofs.YtgeoffpcmkofkaaGreat
