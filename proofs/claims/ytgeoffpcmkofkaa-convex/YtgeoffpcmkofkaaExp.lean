/- Expansions: lists of float64s whose sum is the number; one more added; the sign. No condition but that no number is too great. -/
import Derived.Test.YtgeoffpcmkofkaaFlo
namespace Go.Proofs.Ytgeoffpcmkofkaa.Fl

/-- The parts are not 0, of 53 digits, and no two share a binary place; the lesser ones come first. -/
def Ex : List Int → Prop
  | [] => True
  | a :: l => a ≠ 0 ∧ Rep a ∧ (∃ s : Nat, (a.natAbs : Int) < 2 ^ s ∧ ∀ b ∈ l, (2 : Int) ^ s ∣ b) ∧ Ex l

def mass : List Int → Int
  | [] => 0
  | a :: l => a.natAbs + mass l

def total : List Int → Int
  | [] => 0
  | a :: l => a + total l

theorem mass_nonneg (l : List Int) : 0 ≤ mass l := by
  induction l with
  | nil => exact Int.le_refl _
  | cons a l ih => simp only [mass]; omega
theorem mass_append (l m : List Int) : mass (l ++ m) = mass l + mass m := by
  induction l with
  | nil => simp [mass]
  | cons a l ih => simp only [List.cons_append, mass, ih]; omega
theorem total_append (l m : List Int) : total (l ++ m) = total l + total m := by
  induction l with
  | nil => simp [total]
  | cons a l ih => simp only [List.cons_append, total, ih]; omega

/-- One float64 is added to an expansion, part by part: what comes of it. -/
inductive Gr : Int → List Int → List Int → Prop
  | nil : Gr 0 [] []
  | one {q : Int} : q ≠ 0 → Gr q [] [q]
  | keep {q p s : Int} {l out : List Int} : Rnd (q + p) s → q + p - s ≠ 0 → Gr s l out → Gr q (p :: l) ((q + p - s) :: out)
  | drop {q p s : Int} {l out : List Int} : Rnd (q + p) s → q + p - s = 0 → Gr s l out → Gr q (p :: l) out

theorem Gr.total {q : Int} {l out : List Int} (h : Gr q l out) : Fl.total out = q + Fl.total l := by
  induction h with
  | nil => rfl
  | one _ => rfl
  | keep _ _ _ ih => simp only [Fl.total, ih]; omega
  | drop _ _ _ ih => simp only [Fl.total, ih]; omega

theorem Gr.grid {q : Int} {l out : List Int} {s : Nat} (h : Gr q l out) (hq : (2 : Int) ^ s ∣ q) (hl : ∀ p ∈ l, (2 : Int) ^ s ∣ p) : ∀ x ∈ out, (2 : Int) ^ s ∣ x := by
  induction h with
  | nil => simp
  | one _ => simpa using hq
  | keep h1 _ _ ih =>
    have hs := Int.dvd_add hq (hl _ (List.mem_cons_self ..))
    have hs2 := h1.grid hs
    intro x hx
    rcases List.mem_cons.1 hx with rfl | hx
    · exact Int.dvd_sub hs hs2
    · exact ih hs2 (fun p hp => hl p (List.mem_cons_of_mem _ hp)) x hx
  | drop h1 _ _ ih =>
    have hs := Int.dvd_add hq (hl _ (List.mem_cons_self ..))
    exact ih (h1.grid hs) (fun p hp => hl p (List.mem_cons_of_mem _ hp))

theorem Gr.ex {q : Int} {l out : List Int} (h : Gr q l out) (hq : Rep q) (hl : Ex l) : Ex out := by
  induction h with
  | nil => trivial
  | @one q h0 =>
    refine ⟨h0, hq, ⟨q.natAbs.log2 + 1, ?_, by simp⟩, trivial⟩
    have h1 := Nat.lt_log2_self (n := q.natAbs)
    rw [← p2_cast]
    exact Int.ofNat_lt.2 h1
  | @keep q p s l out h1 h0 hg ih =>
    obtain ⟨hp0, hpr, ⟨t, ht1, ht2⟩, hex⟩ := hl
    refine ⟨h0, h1.lost_rep hq hpr, ?_, ih h1.rep hex⟩
    obtain ⟨_, l2⟩ := h1.lost_le hq hpr
    obtain ⟨e, g1, g2, g3, g4⟩ := h1
    refine ⟨min t e, ?_, ?_⟩
    · rcases Nat.le_total t e with h | h
      · rw [Nat.min_eq_left h]; omega
      · rw [Nat.min_eq_right h]; have := p2_pos e; omega
    · exact hg.grid (Int.dvd_trans (p2_dvd (Nat.min_le_right ..)) g1) (fun p hp => Int.dvd_trans (p2_dvd (Nat.min_le_left ..)) (ht2 p hp))
  | drop h1 _ _ ih =>
    exact ih h1.rep hl.2.2.2

theorem Gr.length {q : Int} {l out : List Int} (h : Gr q l out) : out.length ≤ l.length + 1 := by
  induction h with
  | nil => simp
  | one _ => simp
  | keep _ _ _ ih => simp; omega
  | drop _ _ _ ih => simp; omega

/-- The sign is that of the last part. -/
theorem Ex.dvd_total {l : List Int} {s : Nat} (h : ∀ b ∈ l, (2 : Int) ^ s ∣ b) : (2 : Int) ^ s ∣ total l := by
  induction l with
  | nil => exact Int.dvd_zero _
  | cons a l ih => exact Int.dvd_add (h a (List.mem_cons_self ..)) (ih (fun b hb => h b (List.mem_cons_of_mem _ hb)))

theorem Ex.sign {l : List Int} (h : Ex l) (hne : l ≠ []) : (total l < 0 ↔ l.getLast hne < 0) ∧ (0 < total l ↔ 0 < l.getLast hne) ∧ total l ≠ 0 := by
  induction l with
  | nil => exact absurd rfl hne
  | cons a l ih =>
    obtain ⟨h0, _, ⟨s, hs1, hs2⟩, hex⟩ := h
    cases l with
    | nil => simp only [total, List.getLast_singleton]; omega
    | cons b l =>
      have ih' := ih hex (by simp)
      rw [List.getLast_cons (by simp)]
      have hd := Ex.dvd_total hs2
      have hbig : (2 : Int) ^ s ≤ (total (b :: l)).natAbs := by
        have h1 : (2 : Int) ^ s ∣ ((total (b :: l)).natAbs : Int) := Int.dvd_natAbs.2 hd
        exact Int.le_of_dvd (by omega) h1
      generalize hT : total (b :: l) = T at *
      simp only [total] at hT ⊢
      omega

/-- One step of the growing: what the masses come to. -/
theorem step_mass {q p s T K : Int} (h : Rnd (q + p) s) (hT : T ≤ 2 ^ 52 * K) {rest : Int} (hr : 0 ≤ rest) (hb : (q.natAbs : Int) + p.natAbs + rest ≤ T) :
    (s.natAbs : Int) + (q + p - s).natAbs + rest ≤ T + K := by
  have hrel := h.rel
  have e53 : (2 : Int) ^ 53 = 9007199254740992 := by decide
  have e52 : (2 : Int) ^ 52 = 4503599627370496 := by decide
  rw [e53] at hrel
  rw [e52] at hT
  omega

/-- Pairs of a word and the number that it is. -/
abbrev Ws := List (Nat × Int)
def vals (ws : Ws) : List Int := ws.map (·.2)
def Fs (ws : Ws) : Prop := ∀ p ∈ ws, F p.1 p.2 0

theorem vals_append (a b : Ws) : vals (a ++ b) = vals a ++ vals b := by simp [vals]

/-- The growing, at part i: Q is carried, O has been put down. -/
structure GrInv (b : Int) (es : Ws) (T : Int) (K : Nat) (i : Nat) (Q : Nat × Int) (O : Ws) : Prop where
  rep : Rep Q.2
  word : F Q.1 Q.2 0
  words : Fs O
  len : O.length ≤ i
  le : i ≤ es.length
  bound : (Q.2.natAbs : Int) + mass (vals O) + mass (vals (es.drop i)) ≤ T + i * 2 ^ K
  gr : ∀ out, Gr Q.2 (vals (es.drop i)) out → Gr b (vals es) (vals O ++ out)

theorem GrInv.start {b : Nat × Int} {es : Ws} {T : Int} {K : Nat} (hb : Rep b.2) (hw : F b.1 b.2 0) (hm : (b.2.natAbs : Int) + mass (vals es) ≤ T) : GrInv b.2 es T K 0 b [] :=
  ⟨hb, hw, fun _ h => absurd h (by simp), Nat.le_refl _, Nat.zero_le _, by simpa [vals, mass] using hm, fun out h => by simpa [vals] using h⟩

theorem drop_cons {es : Ws} {i : Nat} (h : i < es.length) : es.drop i = es[i] :: es.drop (i + 1) := List.drop_eq_getElem_cons h

/-- The step's numbers are small enough. -/
theorem GrInv.small {b : Int} {es : Ws} {T : Int} {K i : Nat} {Q : Nat × Int} {O : Ws} (h : GrInv b es T K i Q O) (hi : i < es.length) (hT : T + es.length * 2 ^ K ≤ 2 ^ 52 * 2 ^ K) (hK : K + 52 ≤ 880) :
    ((Q.2.natAbs : Int) + es[i].2.natAbs) < Mid := by
  have hb := h.bound
  rw [drop_cons hi] at hb
  simp only [vals, List.map_cons, mass] at hb
  have h1 := mass_nonneg (O.map (·.2))
  have h2 := mass_nonneg ((es.drop (i + 1)).map (·.2))
  have h3 : T + i * 2 ^ K ≤ 2 ^ 52 * 2 ^ K := Int.le_trans (by have := Int.mul_le_mul_of_nonneg_right (show (i : Int) ≤ es.length by omega) (show (0 : Int) ≤ 2 ^ K by have := p2_pos K; omega); omega) hT
  rw [← p2_add] at h3
  have h4 := p2_lt_Mid (show 52 + K < 890 by omega)
  omega

theorem GrInv.keep {b : Int} {es : Ws} {T : Int} {K i : Nat} {Q : Nat × Int} {O : Ws} (h : GrInv b es T K i Q O) (hi : i < es.length) (hT : T + es.length * 2 ^ K ≤ 2 ^ 52 * 2 ^ K) {s l : Nat × Int}
    (hs : Rnd (Q.2 + es[i].2) s.2) (hsF : F s.1 s.2 0) (hl : l.2 = Q.2 + es[i].2 - s.2) (hlF : F l.1 l.2 0) (h0 : l.2 ≠ 0) : GrInv b es T K (i + 1) s (O ++ [l]) := by
  have hb := h.bound
  have hg := h.gr
  rw [drop_cons hi] at hb hg
  simp only [vals, List.map_cons, mass] at hb hg
  refine ⟨hs.rep, hsF, ?_, by have := h.len; simp; omega, hi, ?_, ?_⟩
  · intro p hp
    rcases List.mem_append.1 hp with hp | hp
    · exact h.words p hp
    · rw [List.mem_singleton.1 hp]; exact hlF
  · have h1 := mass_nonneg (O.map (·.2))
    have h2 := mass_nonneg ((es.drop (i + 1)).map (·.2))
    have h3 : T + i * 2 ^ K ≤ 2 ^ 52 * 2 ^ K := Int.le_trans (by have := Int.mul_le_mul_of_nonneg_right (show (i : Int) ≤ es.length by omega) (show (0 : Int) ≤ 2 ^ K by have := p2_pos K; omega); omega) hT
    have := step_mass (T := T + i * 2 ^ K) (K := 2 ^ K) (rest := mass (O.map (·.2)) + mass ((es.drop (i + 1)).map (·.2))) hs h3 (by omega) (by omega)
    simp only [vals, List.map_append, mass_append, List.map_cons, List.map_nil, mass, hl]
    have e : ((i + 1 : Nat) : Int) * 2 ^ K = i * 2 ^ K + 2 ^ K := by push_cast; grind
    rw [e]
    omega
  · intro out ho
    rw [vals_append, List.append_assoc]
    refine hg _ ?_
    simp only [vals, List.map_cons, List.map_nil, List.cons_append, List.nil_append, hl]
    exact Gr.keep hs (by rw [← hl]; exact h0) ho

theorem GrInv.skip {b : Int} {es : Ws} {T : Int} {K i : Nat} {Q : Nat × Int} {O : Ws} (h : GrInv b es T K i Q O) (hi : i < es.length) (hT : T + es.length * 2 ^ K ≤ 2 ^ 52 * 2 ^ K) {s : Nat × Int}
    (hs : Rnd (Q.2 + es[i].2) s.2) (hsF : F s.1 s.2 0) (h0 : Q.2 + es[i].2 - s.2 = 0) : GrInv b es T K (i + 1) s O := by
  have hb := h.bound
  have hg := h.gr
  rw [drop_cons hi] at hb hg
  simp only [vals, List.map_cons, mass] at hb hg
  refine ⟨hs.rep, hsF, h.words, by have := h.len; omega, hi, ?_, ?_⟩
  · have h1 := mass_nonneg (O.map (·.2))
    have h2 := mass_nonneg ((es.drop (i + 1)).map (·.2))
    have h3 : T + i * 2 ^ K ≤ 2 ^ 52 * 2 ^ K := Int.le_trans (by have := Int.mul_le_mul_of_nonneg_right (show (i : Int) ≤ es.length by omega) (show (0 : Int) ≤ 2 ^ K by have := p2_pos K; omega); omega) hT
    have := step_mass (T := T + i * 2 ^ K) (K := 2 ^ K) (rest := mass (O.map (·.2)) + mass ((es.drop (i + 1)).map (·.2))) hs h3 (by omega) (by omega)
    simp only [vals]
    have e : ((i + 1 : Nat) : Int) * 2 ^ K = i * 2 ^ K + 2 ^ K := by push_cast; grind
    rw [e]
    omega
  · intro out ho
    exact hg _ (Gr.drop hs h0 ho)

/-- What has come of the growing. -/
structure Grown (b : Int) (es : Ws) (T : Int) (K : Nat) (out : Ws) : Prop where
  words : Fs out
  len : out.length ≤ es.length + 1
  bound : mass (vals out) ≤ T + es.length * 2 ^ K
  gr : Gr b (vals es) (vals out)

theorem GrInv.last {b : Int} {es : Ws} {T : Int} {K : Nat} {Q : Nat × Int} {O : Ws} (h : GrInv b es T K es.length Q O) (h0 : Q.2 ≠ 0) : Grown b es T K (O ++ [Q]) := by
  have hb := h.bound
  have hg := h.gr
  rw [List.drop_length] at hb hg
  refine ⟨?_, by have := h.len; simp; omega, ?_, ?_⟩
  · intro p hp
    rcases List.mem_append.1 hp with hp | hp
    · exact h.words p hp
    · rw [List.mem_singleton.1 hp]; exact h.word
  · simp only [vals, List.map_append, mass_append, List.map_cons, List.map_nil, mass] at hb ⊢
    omega
  · rw [vals_append]
    exact hg _ (Gr.one h0)

theorem GrInv.last0 {b : Int} {es : Ws} {T : Int} {K : Nat} {Q : Nat × Int} {O : Ws} (h : GrInv b es T K es.length Q O) (h0 : Q.2 = 0) : Grown b es T K O := by
  have hb := h.bound
  have hg := h.gr
  rw [List.drop_length] at hb hg
  refine ⟨h.words, by have := h.len; omega, ?_, ?_⟩
  · simp only [vals, List.map_nil, mass] at hb ⊢
    omega
  · have := hg [] (by rw [h0]; exact Gr.nil)
    rwa [List.append_nil] at this

end Go.Proofs.Ytgeoffpcmkofkaa.Fl
