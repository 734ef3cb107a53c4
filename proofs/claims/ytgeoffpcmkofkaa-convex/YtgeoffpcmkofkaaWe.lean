/- 'Times' of expansions. -/
import Derived.Test.YtgeoffpcmkofkaaWd
namespace Go.Proofs.Ytgeoffpcmkofkaa
open Go.RowKit Fl
set_option maxRecDepth 100000

/-- Products, at part i of the one, x, and part j of the other. -/
structure MulInv (e f : Ws) (K i : Nat) (x : Int) (j : Nat) (S : Ws) : Prop where
  len : S.length ≤ 2 * (i * f.length + j)
  tot : total (vals S) = total (vals (e.take i)) * total (vals f) + x * total (vals (f.take j))
  bound : mass (vals S) ≤ mass (vals (e.take i)) * mass (vals f) + x.natAbs * mass (vals (f.take j)) + ((i * f.length + j : Nat) : Int) * (4 * (e.length * f.length : Nat) + 1) * 2 ^ K

theorem MulInv.start (e f : Ws) (K : Nat) (x : Int) : MulInv e f K 0 x 0 [] := ⟨by simp, by simp [vals, total], by simp [vals, mass]⟩

/-- The next part of the one. -/
theorem MulInv.outer {e f : Ws} {K i : Nat} {S : Ws} (hi : i < e.length) (h : MulInv e f K i e[i].2 f.length S) (x : Int) : MulInv e f K (i + 1) x 0 S := by
  have e1 : (i + 1) * f.length + 0 = i * f.length + f.length := by grind
  refine ⟨by rw [e1]; exact h.len, ?_, ?_⟩
  · rw [h.tot, total_take hi, List.take_length]; simp [vals, total]; grind
  · have hb := h.bound
    rw [List.take_length] at hb
    rw [e1, mass_take hi]
    simp only [List.take_zero, vals, List.map_nil, mass] at hb ⊢
    have e2 : (mass ((e.take i).map (·.2)) + (e[i].2.natAbs : Int)) * mass (f.map (·.2)) = mass ((e.take i).map (·.2)) * mass (f.map (·.2)) + (e[i].2.natAbs : Int) * mass (f.map (·.2)) := by grind
    rw [e2]
    omega

theorem MulInv.any {e f : Ws} {K i : Nat} {S : Ws} {x : Int} (h : MulInv e f K i x 0 S) (y : Int) : MulInv e f K i y 0 S :=
  ⟨h.len, by rw [h.tot]; simp [vals, total], by simpa [vals, mass] using h.bound⟩

theorem mass_take_le (f : Ws) (j : Nat) : mass (vals (f.take j)) ≤ mass (vals f) := by
  have := mass_append (vals (f.take j)) (vals (f.drop j))
  rw [← vals_append, List.take_append_drop] at this
  have := mass_nonneg (vals (f.drop j))
  omega

theorem mass_part {e f : Ws} {i j : Nat} (hi : i < e.length) : mass (vals (e.take i)) * mass (vals f) + (e[i].2.natAbs : Int) * mass (vals (f.take j)) ≤ mass (vals e) * mass (vals f) := by
  have h1 := mass_take hi
  have h2 := mass_take_le e (i + 1)
  have h3 := mass_take_le f j
  have h4 := mass_nonneg (vals f)
  have h5 : (e[i].2.natAbs : Int) * mass (vals (f.take j)) ≤ (e[i].2.natAbs : Int) * mass (vals f) := Int.mul_le_mul_of_nonneg_left h3 (by omega)
  have h6 : (mass (vals (e.take i)) + (e[i].2.natAbs : Int)) * mass (vals f) ≤ mass (vals e) * mass (vals f) := Int.mul_le_mul_of_nonneg_right (by omega) h4
  have h7 : (mass (vals (e.take i)) + (e[i].2.natAbs : Int)) * mass (vals f) = mass (vals (e.take i)) * mass (vals f) + (e[i].2.natAbs : Int) * mass (vals f) := by grind
  omega

theorem place_lt {n m i j : Nat} (hi : i < n) (hj : j < m) : i * m + j + 1 ≤ n * m := by
  have h1 : (i + 1) * m ≤ n * m := Nat.mul_le_mul_right m hi
  have h2 : (i + 1) * m = i * m + m := by grind
  omega

theorem mul_arith {A P X U C4 len len1 K2 s l xy mS mS1 mS2 : Int} (hK : 0 < K2) (hxy : xy ≤ P) (hA : mS ≤ A + U * K2) (hP : A + P + (U + C4) * K2 ≤ X) (hX : X ≤ 4503599627370496 * K2)
    (hl : l * 9007199254740992 ≤ xy) (h0 : 0 ≤ l) (hxy0 : 0 ≤ A) (hU : 0 ≤ U) (hs : s ≤ xy + l) (hl1 : len + len1 + 1 ≤ C4) (h0l : 0 ≤ len) (h0l1 : 0 ≤ len1)
    (h1 : mS1 ≤ l + mS + len * K2) (h2 : mS2 ≤ s + mS1 + len1 * K2) :
    l + mS + len * K2 ≤ X ∧ s + mS1 + len1 * K2 ≤ X ∧ mS2 ≤ A + xy + (U + C4) * K2 := by
  have e1 : (U + C4) * K2 = U * K2 + C4 * K2 := by grind
  have e2 : (len + len1 + 1) * K2 ≤ C4 * K2 := Int.mul_le_mul_of_nonneg_right hl1 (by omega)
  have e3 : (len + len1 + 1) * K2 = len * K2 + len1 * K2 + K2 := by grind
  have e4 : 0 ≤ len * K2 := Int.mul_nonneg h0l (by omega)
  have e5 : 0 ≤ len1 * K2 := Int.mul_nonneg h0l1 (by omega)
  have e6 : 0 ≤ U * K2 := Int.mul_nonneg hU (by omega)
  rw [e1] at hP ⊢
  generalize U * K2 = u at *
  generalize C4 * K2 = c at *
  generalize len * K2 = a at *
  generalize len1 * K2 = b at *
  omega

/-- What is asked of the two factors. -/
structure MulPre (e f : Ws) (K : Nat) : Prop where
  we : Fs e
  wf : Fs f
  xe : Ex (vals e)
  xf : Ex (vals f)
  few : e.length * f.length ≤ 1024
  place : K + 52 ≤ 880
  bound : mass (vals e) * mass (vals f) + ((e.length * f.length : Nat) : Int) * (4 * (e.length * f.length : Nat) + 1) * 2 ^ K ≤ 2 ^ 52 * 2 ^ K

/-- The product of two parts, split. -/
structure Rd (x y : Int) (s l : Nat × Int) : Prop where
  rnd : Rnd (x * y) s.2
  ws : F s.1 s.2 0
  lost : l.2 = x * y - s.2
  wl : F l.1 l.2 0
  rep : Rep l.2

theorem part_le {e : Ws} {i : Nat} (hi : i < e.length) : (e[i].2.natAbs : Int) ≤ mass (vals e) := by
  have h1 := mass_take hi
  have h2 := mass_take_le e (i + 1)
  have h3 := mass_nonneg (vals (e.take i))
  omega

theorem prod_le {e f : Ws} {i j : Nat} (hi : i < e.length) (hj : j < f.length) : ((e[i].2 * f[j].2).natAbs : Int) ≤ mass (vals e) * mass (vals f) := by
  rw [Int.natAbs_mul, Int.natCast_mul]
  exact Int.mul_le_mul (part_le hi) (part_le hj) (by omega) (mass_nonneg _)

theorem mul_split {e f : Ws} {K i j : Nat} (hp : MulPre e f K) (hi : i < e.length) (hj : j < f.length) (w : World) :
    Calls Try.prog 95 #[.float .f64 e[i].1, .float .f64 f[j].1] w fun e' w' => ∃ s l : Nat × Int, e' = .returned (.tuple #[.float .f64 s.1, .float .f64 l.1]) ∧ w = w' ∧ Hid (Rd e[i].2 f[j].2 s l) := by
  have h1 := prod_le hi hj
  have h2 := hp.bound
  have h3 : 0 ≤ ((e.length * f.length : Nat) : Int) * (4 * (e.length * f.length : Nat) + 1) * 2 ^ K := Int.mul_nonneg (Int.mul_nonneg (by omega) (by omega)) (by have := p2_pos K; omega)
  have h4 : (2 : Int) ^ 52 * 2 ^ K < Mid := by rw [← p2_add]; exact p2_lt_Mid (by have := hp.place; omega)
  refine (splitProduct_any e[i] f[j] w (hp.we _ (List.getElem_mem hi)) (hp.wf _ (List.getElem_mem hj)) (ex_reps hp.xe _ (List.getElem_mem hi)) (ex_reps hp.xf _ (List.getElem_mem hj)) (by omega)).mono ?_
  rintro e' w' ⟨s, l, rfl, rfl, h1, h2, h3, h4, h5⟩
  exact ⟨s, l, rfl, rfl, h1, h2, h3, h4, h5⟩

/-- All that the two calls of 'grow' in a round need. -/
theorem mul_round {e f : Ws} {K i j : Nat} {S S1 : Ws} {s l : Nat × Int} (hp : MulPre e f K) (hi : i < e.length) (hj : j < f.length) (h : MulInv e f K i e[i].2 j S) (hr : Rd e[i].2 f[j].2 s l)
    (hl1 : S1.length ≤ S.length + 1) (hm1 : mass (vals S1) ≤ (l.2.natAbs : Int) + mass (vals S) + S.length * 2 ^ K) :
    (l.2.natAbs : Int) + mass (vals S) + S.length * 2 ^ K ≤ 2 ^ 52 * 2 ^ K ∧ (s.2.natAbs : Int) + mass (vals S1) + S1.length * 2 ^ K ≤ 2 ^ 52 * 2 ^ K ∧
    ∀ S2 : Ws, S2.length ≤ S1.length + 1 → total (vals S1) = l.2 + total (vals S) → total (vals S2) = s.2 + total (vals S1) → mass (vals S2) ≤ (s.2.natAbs : Int) + mass (vals S1) + S1.length * 2 ^ K → MulInv e f K i e[i].2 (j + 1) S2 := by
  have hpl := place_lt hi hj
  have hlen := h.len
  have hrel := hr.rnd.rel
  have e53 : (2 : Int) ^ 53 = 9007199254740992 := by decide
  have e52 : (2 : Int) ^ 52 = 4503599627370496 := by decide
  rw [← hr.lost, e53] at hrel
  have hmp := mass_part (f := f) (j := j + 1) hi
  have hK := p2_pos K
  have hb := hp.bound
  rw [e52] at hb ⊢
  have hU : (((i * f.length + j : Nat) : Int) * (4 * (e.length * f.length : Nat) + 1) + (4 * (e.length * f.length : Nat) + 1)) * 2 ^ K ≤ ((e.length * f.length : Nat) : Int) * (4 * (e.length * f.length : Nat) + 1) * 2 ^ K := by
    refine Int.mul_le_mul_of_nonneg_right ?_ (by omega)
    have h1 : (((i * f.length + j + 1 : Nat) : Int)) * (4 * (e.length * f.length : Nat) + 1) ≤ ((e.length * f.length : Nat) : Int) * (4 * (e.length * f.length : Nat) + 1) := Int.mul_le_mul_of_nonneg_right (by omega) (by omega)
    have h2 : (((i * f.length + j + 1 : Nat) : Int)) * (4 * (e.length * f.length : Nat) + 1) = ((i * f.length + j : Nat) : Int) * (4 * (e.length * f.length : Nat) + 1) + (4 * (e.length * f.length : Nat) + 1) := by
      rw [Int.natCast_add (i * f.length + j) 1]; grind
    omega
  have hA0 : 0 ≤ mass (vals (e.take i)) * mass (vals f) + e[i].2.natAbs * mass (vals (f.take j)) :=
    Int.add_nonneg (Int.mul_nonneg (mass_nonneg _) (mass_nonneg _)) (Int.mul_nonneg (by omega) (mass_nonneg _))
  have hxy : ((e[i].2 * f[j].2).natAbs : Int) = e[i].2.natAbs * f[j].2.natAbs := by rw [Int.natAbs_mul, Int.natCast_mul]
  have hmt : mass (vals (e.take i)) * mass (vals f) + e[i].2.natAbs * mass (vals (f.take (j + 1))) = mass (vals (e.take i)) * mass (vals f) + e[i].2.natAbs * mass (vals (f.take j)) + ((e[i].2 * f[j].2).natAbs : Int) := by
    rw [mass_take hj, hxy]; grind
  have hlst := hr.lost
  have hU0 : 0 ≤ ((i * f.length + j : Nat) : Int) * (4 * (e.length * f.length : Nat) + 1) := Int.mul_nonneg (by omega) (by omega)
  have hbd := h.bound
  have key := fun (mS2 : Int) (h2 : mS2 ≤ (s.2.natAbs : Int) + mass (vals S1) + S1.length * 2 ^ K) =>
    mul_arith (A := mass (vals (e.take i)) * mass (vals f) + e[i].2.natAbs * mass (vals (f.take j))) (P := ((e[i].2 * f[j].2).natAbs : Int)) (X := 4503599627370496 * 2 ^ K) (U := ((i * f.length + j : Nat) : Int) * (4 * (e.length * f.length : Nat) + 1)) (C4 := 4 * (e.length * f.length : Nat) + 1)
      (len := S.length) (len1 := S1.length) (s := s.2.natAbs) (l := l.2.natAbs) (xy := ((e[i].2 * f[j].2).natAbs : Int)) hK (Int.le_refl _) hbd (by rw [← hmt]; omega) (Int.le_refl _) hrel (by omega) hA0 hU0 (by omega) (by omega) (by omega) (by omega) hm1 h2
  refine ⟨(key _ (Int.le_refl _)).1, (key _ (Int.le_refl _)).2.1, ?_⟩
  intro S2 hl2 ht1 ht2 hm2
  refine ⟨by omega, ?_, ?_⟩
  · rw [ht2, ht1, h.tot, total_take hj, hr.lost]; grind
  · have := (key _ hm2).2.2
    rw [hmt]
    have e1 : ((i * f.length + (j + 1) : Nat) : Int) * (4 * (e.length * f.length : Nat) + 1) = ((i * f.length + j : Nat) : Int) * (4 * (e.length * f.length : Nat) + 1) + (4 * (e.length * f.length : Nat) + 1) := by
      rw [← Nat.add_assoc, Int.natCast_add (i * f.length + j) 1]; grind
    rw [e1]
    exact this

end Go.Proofs.Ytgeoffpcmkofkaa
