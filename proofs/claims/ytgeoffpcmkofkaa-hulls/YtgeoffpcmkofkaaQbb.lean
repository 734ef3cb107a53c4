/- Dig: texts laid into one. -/
/- Whole numbers as lists of digits, the least first: sums, differences, products, which is the greater. -/
namespace Go.Proofs.Ytgeoffpcmkofkaa.Dg

abbrev B : Int := 1048576

/-- The number of some digits. -/
def dv : List Int → Int
  | [] => 0
  | d :: l => d + 1048576 * dv l

def Dok (ds : List Int) : Prop := ∀ d ∈ ds, 0 ≤ d ∧ d < 1048576
/-- None of the highest is 0. -/
def Tr (ds : List Int) : Prop := ∀ h : ds ≠ [], ds.getLast h ≠ 0

theorem bp (n : Nat) : (0 : Int) < B ^ n := Int.pow_pos (by decide)
theorem bs (n : Nat) : B ^ (n + 1) = 1048576 * B ^ n := by rw [Int.pow_succ, Int.mul_comm]
theorem ba (m n : Nat) : B ^ (m + n) = B ^ m * B ^ n := Int.pow_add B m n
theorem bm {m n : Nat} (h : m ≤ n) : B ^ m ≤ B ^ n := by
  obtain ⟨c, rfl⟩ := Nat.exists_eq_add_of_le h
  rw [ba]
  have h1 := bp m
  have h2 := bp c
  have : B ^ m * 1 ≤ B ^ m * B ^ c := Int.mul_le_mul_of_nonneg_left h2 (by omega)
  omega
theorem bl {m n : Nat} (h : B ^ m < B ^ n) : m < n := by
  rcases Nat.lt_or_ge m n with h1 | h1
  · exact h1
  · have := bm h1; omega

theorem dv_append (a b : List Int) : dv (a ++ b) = dv a + B ^ a.length * dv b := by
  induction a with
  | nil => simp [dv]
  | cons d l ih => simp only [List.cons_append, dv, ih, List.length_cons, bs]; grind

theorem Dok.nil : Dok [] := fun _ h => absurd h (by simp)
theorem Dok.append {a b : List Int} (ha : Dok a) (hb : Dok b) : Dok (a ++ b) := fun d hd => by
  rcases List.mem_append.1 hd with h | h
  · exact ha d h
  · exact hb d h
theorem Dok.one {d : Int} (h0 : 0 ≤ d) (h1 : d < 1048576) : Dok [d] := fun x hx => by rw [List.mem_singleton.1 hx]; exact ⟨h0, h1⟩
theorem Dok.take {a : List Int} (h : Dok a) (n : Nat) : Dok (a.take n) := fun d hd => h d (List.mem_of_mem_take hd)
theorem Dok.drop {a : List Int} (h : Dok a) (n : Nat) : Dok (a.drop n) := fun d hd => h d (List.mem_of_mem_drop hd)

theorem dv_nonneg {ds : List Int} (h : Dok ds) : 0 ≤ dv ds := by
  induction ds with
  | nil => simp [dv]
  | cons d l ih =>
    have h1 := h d (List.mem_cons_self ..)
    have h2 := ih (fun x hx => h x (List.mem_cons_of_mem _ hx))
    simp only [dv]; omega

theorem dv_lt {ds : List Int} (h : Dok ds) : dv ds < B ^ ds.length := by
  induction ds with
  | nil => simp [dv]
  | cons d l ih =>
    have h1 := h d (List.mem_cons_self ..)
    have h2 := ih (fun x hx => h x (List.mem_cons_of_mem _ hx))
    simp only [dv, List.length_cons, bs]; omega

theorem dv_split (ds : List Int) (n : Nat) (h : n ≤ ds.length) : dv ds = dv (ds.take n) + B ^ n * dv (ds.drop n) := by
  have := dv_append (ds.take n) (ds.drop n)
  rw [List.take_append_drop, List.length_take, Nat.min_eq_left h] at this
  exact this

theorem dv_drop (ds : List Int) (i : Nat) : dv (ds.drop i) = ds.getD i 0 + 1048576 * dv (ds.drop (i + 1)) := by
  by_cases h : i < ds.length
  · rw [List.drop_eq_getElem_cons h]
    simp only [dv]
    rw [List.getD_eq_getElem?_getD, List.getElem?_eq_getElem h]; rfl
  · rw [List.drop_eq_nil_of_le (by omega), List.drop_eq_nil_of_le (by omega), List.getD_eq_getElem?_getD, List.getElem?_eq_none (by omega)]; rfl

theorem getD_ok {ds : List Int} (h : Dok ds) (i : Nat) : 0 ≤ ds.getD i 0 ∧ ds.getD i 0 < 1048576 := by
  rw [List.getD_eq_getElem?_getD]
  by_cases hi : i < ds.length
  · rw [List.getElem?_eq_getElem hi]; exact h _ (List.getElem_mem hi)
  · rw [List.getElem?_eq_none (by omega)]; simp

theorem drop_last {ds : List Int} (hn : ds ≠ []) : ds.drop (ds.length - 1) = [ds.getLast hn] := by
  have hlen : 0 < ds.length := List.length_pos_iff.2 hn
  rw [List.drop_eq_getElem_cons (by omega), List.drop_eq_nil_of_le (by omega), List.getLast_eq_getElem]

/-- Of digits without 0 at the top the number is great. -/
theorem dv_ge {ds : List Int} (h : Dok ds) (ht : Tr ds) (hn : ds ≠ []) : B ^ (ds.length - 1) ≤ dv ds := by
  have h1 := ht hn
  have hlen : 0 < ds.length := List.length_pos_iff.2 hn
  have h2 := dv_split ds (ds.length - 1) (by omega)
  rw [drop_last hn] at h2
  have h3 := h _ (List.getLast_mem hn)
  have h4 := dv_nonneg (h.take (ds.length - 1))
  have h5 : B ^ (ds.length - 1) * 1 ≤ B ^ (ds.length - 1) * dv [ds.getLast hn] := by
    refine Int.mul_le_mul_of_nonneg_left ?_ (by have := bp (ds.length - 1); omega)
    simp only [dv]; omega
  omega

theorem tr_of {ds : List Int} (h : Dok ds) (hg : ds ≠ [] → B ^ (ds.length - 1) ≤ dv ds) : Tr ds := by
  intro hn h0
  have h1 := hg hn
  have hlen : 0 < ds.length := List.length_pos_iff.2 hn
  have h2 := dv_split ds (ds.length - 1) (by omega)
  rw [drop_last hn, h0] at h2
  simp only [dv] at h2
  have h3 := dv_lt (h.take (ds.length - 1))
  rw [List.length_take, Nat.min_eq_left (by omega)] at h3
  omega

theorem dv_zero {ds : List Int} (h : Dok ds) (ht : Tr ds) : dv ds = 0 ↔ ds = [] := by
  constructor
  · intro h0
    by_cases hn : ds = []
    · exact hn
    · have := dv_ge h ht hn
      have := bp (ds.length - 1)
      omega
  · rintro rfl; rfl

/-! ### Sums -/
structure AddI (a b : List Int) (i : Nat) (d : List Int) (c : Int) : Prop where
  len : d.length = i
  ok : Dok d
  c0 : 0 ≤ c
  c1 : c ≤ 1
  val : dv d + B ^ i * c + B ^ i * (dv (a.drop i) + dv (b.drop i)) = dv a + dv b
  top : i ≤ a.length ∨ i ≤ b.length ∨ B ^ (i - 1) ≤ dv a + dv b
  stop : i ≤ a.length + 1 ∨ i ≤ b.length + 1

theorem AddI.start (a b : List Int) : AddI a b 0 [] 0 := ⟨rfl, Dok.nil, by omega, by omega, by simp [dv], Or.inl (by omega), Or.inl (by omega)⟩

theorem AddI.next {a b : List Int} {i : Nat} {d : List Int} {c s : Int} (h : AddI a b i d c) (ha : Dok a) (hb : Dok b) (hgo : i < a.length ∨ i < b.length ∨ 0 < c) (hs : s = a.getD i 0 + b.getD i 0 + c) :
    AddI a b (i + 1) (d ++ [s % 1048576]) (s / 1048576) ∧ 0 ≤ s ∧ s < 2097152 := by
  have h1 := getD_ok ha i
  have h2 := getD_ok hb i
  have hc0 := h.c0
  have hc1 := h.c1
  have hsb : 0 ≤ s ∧ s < 2097152 := by omega
  refine ⟨⟨by simp [h.len], h.ok.append (Dok.one (by omega) (by omega)), by omega, by omega, ?_, ?_, ?_⟩, hsb.1, hsb.2⟩
  · have hv := h.val
    rw [dv_drop a i, dv_drop b i] at hv
    rw [dv_append, h.len, bs]
    have hsd : s = 1048576 * (s / 1048576) + s % 1048576 := by omega
    simp only [dv]
    generalize s / 1048576 = q at *
    generalize s % 1048576 = r at *
    rw [← hv]
    have : a.getD i 0 + b.getD i 0 = 1048576 * q + r - c := by omega
    generalize a.getD i 0 = x at *
    generalize b.getD i 0 = y at *
    have hx : x = 1048576 * q + r - c - y := by omega
    subst hx
    grind
  · rcases hgo with g | g | g
    · left; omega
    · right; left; omega
    · right; right
      have hv := h.val
      have h3 := dv_nonneg h.ok
      have h4 := dv_nonneg (ha.drop i)
      have h5 := dv_nonneg (hb.drop i)
      have hc : c = 1 := by omega
      subst hc
      have h6 : 0 ≤ B ^ i * (dv (a.drop i) + dv (b.drop i)) := Int.mul_nonneg (by have := bp i; omega) (by omega)
      simp only [Nat.add_sub_cancel]
      omega
  · have hst := h.stop
    rcases hgo with g | g | g
    · left; omega
    · right; omega
    · by_cases g1 : i < a.length + 1
      · left; omega
      · by_cases g2 : i < b.length + 1
        · right; omega
        · exfalso
          have hv := h.val
          rw [List.drop_eq_nil_of_le (by omega), List.drop_eq_nil_of_le (by omega)] at hv
          simp only [dv] at hv
          have h3 := dv_nonneg h.ok
          have h4 := dv_lt ha
          have h5 := dv_lt hb
          have hc : c = 1 := by omega
          subst hc
          have g3 := bm (show a.length ≤ i - 1 by omega)
          have g4 := bm (show b.length ≤ i - 1 by omega)
          have g5 := bs (i - 1)
          rw [show i - 1 + 1 = i by omega] at g5
          have g6 := bp (i - 1)
          omega

/-- At the end. -/
theorem AddI.done {a b : List Int} {i : Nat} {d : List Int} (h : AddI a b i d 0) (ha : Dok a) (hb : Dok b) (ta : Tr a) (tb : Tr b) (h1 : a.length ≤ i) (h2 : b.length ≤ i) : dv d = dv a + dv b ∧ Tr d := by
  have hv := h.val
  rw [List.drop_eq_nil_of_le h1, List.drop_eq_nil_of_le h2] at hv
  simp only [dv] at hv
  have hd : dv d = dv a + dv b := by omega
  refine ⟨hd, tr_of h.ok fun hn => ?_⟩
  have hl := h.len
  have hpos : 0 < d.length := List.length_pos_iff.2 hn
  have n1 := dv_nonneg ha
  have n2 := dv_nonneg hb
  rw [hd]
  rcases h.top with h3 | h3 | h3
  · have e : d.length = a.length := by omega
    have := dv_ge ha ta (by intro e2; rw [e2] at e; simp at e; exact hn e)
    rw [e]; omega
  · have e : d.length = b.length := by omega
    have := dv_ge hb tb (by intro e2; rw [e2] at e; simp at e; exact hn e)
    rw [e]; omega
  · rw [hl]; exact h3

/-! ### Differences -/
structure SubI (a b : List Int) (i : Nat) (d : List Int) (c : Int) : Prop where
  len : d.length = i
  ok : Dok d
  c0 : 0 ≤ c
  c1 : c ≤ 1
  val : dv d - B ^ i * c + B ^ i * (dv (a.drop i) - dv (b.drop i)) = dv a - dv b

theorem SubI.start (a b : List Int) : SubI a b 0 [] 0 := ⟨rfl, Dok.nil, by omega, by omega, by simp [dv]⟩

theorem SubI.next {a b : List Int} {i : Nat} {d : List Int} {c s t c' : Int} (h : SubI a b i d c) (ha : Dok a) (hb : Dok b) (hs : s = a.getD i 0 - b.getD i 0 - c) (ht : (s < 0 ∧ t = s + 1048576 ∧ c' = 1) ∨ (0 ≤ s ∧ t = s ∧ c' = 0)) :
    SubI a b (i + 1) (d ++ [t]) c' := by
  have h1 := getD_ok ha i
  have h2 := getD_ok hb i
  have hc0 := h.c0
  have hc1 := h.c1
  have htc : s = t - 1048576 * c' := by omega
  refine ⟨by simp [h.len], h.ok.append (Dok.one (by omega) (by omega)), by omega, by omega, ?_⟩
  have hv := h.val
  rw [dv_drop a i, dv_drop b i] at hv
  rw [dv_append, h.len, bs]
  simp only [dv]
  rw [← hv]
  generalize a.getD i 0 = x at *
  generalize b.getD i 0 = y at *
  have hx : x = t - 1048576 * c' + y + c := by omega
  subst hx
  grind

theorem SubI.done {a b d : List Int} {c : Int} (h : SubI a b a.length d c) (hb : Dok b) (hle : dv b ≤ dv a) : dv d = dv a - dv b := by
  have hv := h.val
  rw [List.drop_length] at hv
  simp only [dv] at hv
  have h1 := dv_lt h.ok
  rw [h.len] at h1
  have h2 := dv_nonneg (hb.drop a.length)
  have h3 := h.c0
  have h4 := bp a.length
  generalize dv (b.drop a.length) = y at *
  have h5 : B ^ a.length * c + B ^ a.length * y ≤ dv d := by
    have : B ^ a.length * (0 - y) = - (B ^ a.length * y) := by grind
    omega
  have h6 : B ^ a.length * (c + y) < B ^ a.length * 1 := by
    have : B ^ a.length * (c + y) = B ^ a.length * c + B ^ a.length * y := by grind
    omega
  have h7 := Int.lt_of_mul_lt_mul_left h6 (by omega)
  have hc : c = 0 := by omega
  have hy : y = 0 := by omega
  subst hc hy
  omega

/-! ### Trimming -/
theorem trim_step {ds : List Int} {n : Nat} (hn : n + 1 ≤ ds.length) (h0 : ds.getD n 0 = 0) (hv : dv (ds.take (n + 1)) = dv ds) : dv (ds.take n) = dv ds := by
  rw [List.take_succ_eq_append_getElem (by omega), dv_append] at hv
  rw [List.getD_eq_getElem?_getD, List.getElem?_eq_getElem (by omega)] at h0
  simp only [Option.getD_some] at h0
  rw [h0] at hv
  simp only [dv] at hv
  omega

theorem trim_tr {ds : List Int} {n : Nat} (hn : n ≤ ds.length) (h : n = 0 ∨ ds.getD (n - 1) 0 ≠ 0) : Tr (ds.take n) := by
  intro hne h0
  rcases h with h | h
  · subst h; simp at hne
  · have hn0 : n ≠ 0 := by rintro rfl; simp at hne
    apply h
    rw [List.getLast_eq_getElem] at h0
    rw [List.getD_eq_getElem?_getD, List.getElem?_eq_getElem (by omega)]
    simp only [Option.getD_some]
    rw [List.getElem_take] at h0
    have e : (List.take n ds).length - 1 = n - 1 := by rw [List.length_take, Nat.min_eq_left hn]
    simp only [e] at h0
    exact h0

/-! ### Which is the greater -/
theorem greater_len {a b : List Int} (ha : Dok a) (hb : Dok b) (ta : Tr a) (h : b.length < a.length) : dv b < dv a := by
  have h1 := dv_lt hb
  have h2 := dv_ge ha ta (by intro e; rw [e] at h; simp at h)
  have h3 := bm (show b.length ≤ a.length - 1 by omega)
  omega

theorem greater_at {a b : List Int} (ha : Dok a) (hb : Dok b) (hl : a.length = b.length) {i : Nat} (hi : i < a.length) (he : dv (a.drop (i + 1)) = dv (b.drop (i + 1))) (h : b.getD i 0 < a.getD i 0) : dv b < dv a := by
  have h1 := dv_split a i (by omega)
  have h2 := dv_split b i (by omega)
  rw [dv_drop a i] at h1
  rw [dv_drop b i, ← he] at h2
  have h3 := dv_lt (hb.take i)
  rw [List.length_take, Nat.min_eq_left (by omega)] at h3
  have h4 := dv_nonneg (ha.take i)
  have h5 := bp i
  generalize a.getD i 0 = x at *
  generalize b.getD i 0 = y at *
  generalize dv (a.drop (i + 1)) = z at *
  have h6 : B ^ i * (y + 1) ≤ B ^ i * x := Int.mul_le_mul_of_nonneg_left (by omega) (by omega)
  have e1 : B ^ i * (x + 1048576 * z) = B ^ i * x + B ^ i * (1048576 * z) := by grind
  have e2 : B ^ i * (y + 1048576 * z) = B ^ i * (y + 1) - B ^ i + B ^ i * (1048576 * z) := by grind
  rw [e1] at h1
  rw [e2] at h2
  omega

/-! ### Products -/
theorem dv_set {d : List Int} {j : Nat} (hj : j < d.length) (x : Int) : dv (d.set j x) = dv d + B ^ j * (x - d.getD j 0) := by
  induction d generalizing j with
  | nil => simp at hj
  | cons y l ih =>
    cases j with
    | zero => simp [dv]; omega
    | succ j =>
      have := ih (j := j) (by simpa using hj)
      simp only [List.set_cons_succ, dv, this, List.getD_cons_succ, bs]
      grind

theorem dok_set {d : List Int} (h : Dok d) (j : Nat) {x : Int} (h0 : 0 ≤ x) (h1 : x < 1048576) : Dok (d.set j x) := by
  intro y hy
  rcases List.mem_or_eq_of_mem_set hy with hy | rfl
  · exact h y hy
  · exact ⟨h0, h1⟩

theorem dv_zeros (n : Nat) : dv (List.replicate n 0) = 0 := by
  induction n with
  | zero => rfl
  | succ n ih => simp [List.replicate_succ, dv, ih]

theorem dok_zeros (n : Nat) : Dok (List.replicate n 0) := fun d hd => by
  rw [List.eq_of_mem_replicate hd]; omega

/-- At digit i of a, digit k of b. -/
structure MulI (a b : List Int) (i k : Nat) (d : List Int) (c : Int) : Prop where
  len : d.length = a.length + b.length + 1
  ok : Dok d
  c0 : 0 ≤ c
  c1 : c < 1048576
  val : dv d + B ^ (i + k) * c = dv (a.take i) * dv b + a.getD i 0 * dv (b.take k) * B ^ i

theorem MulI.start (a b : List Int) : MulI a b 0 0 (List.replicate (a.length + b.length + 1) 0) 0 :=
  ⟨by simp, dok_zeros _, by omega, by omega, by simp [dv, dv_zeros]⟩

/-- While there is something to carry the place is not past the end. -/
theorem MulI.place {a b : List Int} {i k : Nat} {d : List Int} {c : Int} (h : MulI a b i k d c) (ha : Dok a) (hb : Dok b) (hi : i < a.length) (hgo : k < b.length ∨ 0 < c) : k ≤ b.length := by
  rcases hgo with g | g
  · omega
  · by_cases hk : k ≤ b.length
    · exact hk
    · exfalso
      have hv := h.val
      rw [List.take_of_length_le (by omega : b.length ≤ k)] at hv
      have h1 := dv_nonneg h.ok
      have h2 := bp (i + k)
      have h3 : B ^ (i + k) * 1 ≤ B ^ (i + k) * c := Int.mul_le_mul_of_nonneg_left (by omega) (by omega)
      have h4 : dv (a.take (i + 1)) = dv (a.take i) + B ^ i * a.getD i 0 := by
        rw [List.take_succ_eq_append_getElem hi, dv_append, List.length_take, Nat.min_eq_left (by omega), List.getD_eq_getElem?_getD, List.getElem?_eq_getElem hi]
        simp only [dv, Option.getD_some]; grind
      have h5 := dv_lt (ha.take (i + 1))
      rw [List.length_take, Nat.min_eq_left (by omega)] at h5
      have h6 := dv_lt hb
      have h7 := dv_nonneg hb
      have h8 := dv_nonneg (ha.take (i + 1))
      have h9 : dv (a.take (i + 1)) * dv b ≤ dv (a.take (i + 1)) * B ^ b.length := Int.mul_le_mul_of_nonneg_left (by omega) h8
      have h10 : dv (a.take (i + 1)) * B ^ b.length < B ^ (i + 1) * B ^ b.length := Int.mul_lt_mul_of_pos_right h5 (bp _)
      rw [← ba] at h10
      have h11 := bm (show i + 1 + b.length ≤ i + k by omega)
      have e : dv (a.take (i + 1)) * dv b = dv (a.take i) * dv b + a.getD i 0 * dv b * B ^ i := by rw [h4]; grind
      omega

theorem MulI.next {a b : List Int} {i k : Nat} {d : List Int} {c s : Int} (h : MulI a b i k d c) (ha : Dok a) (hb : Dok b) (hi : i < a.length) (hk : k ≤ b.length) (hs : s = d.getD (i + k) 0 + a.getD i 0 * b.getD k 0 + c) :
    MulI a b i (k + 1) (d.set (i + k) (s % 1048576)) (s / 1048576) ∧ 0 ≤ s ∧ s < 1099511627776 := by
  have h1 := getD_ok ha i
  have h2 := getD_ok hb k
  have h3 := getD_ok h.ok (i + k)
  have hc0 := h.c0
  have hc1 := h.c1
  have hp : a.getD i 0 * b.getD k 0 ≤ 1048575 * 1048575 := Int.mul_le_mul (by omega) (by omega) (by omega) (by omega)
  have hp0 : 0 ≤ a.getD i 0 * b.getD k 0 := Int.mul_nonneg (by omega) (by omega)
  have hsb : 0 ≤ s ∧ s < 1099511627776 := by omega
  refine ⟨⟨by simp [h.len], dok_set h.ok _ (by omega) (by omega), by omega, by omega, ?_⟩, hsb.1, hsb.2⟩
  have hv := h.val
  have hlen := h.len
  rw [dv_set (by omega)]
  have ht : dv (b.take (k + 1)) = dv (b.take k) + B ^ k * b.getD k 0 := by
    by_cases hkb : k < b.length
    · rw [List.take_succ_eq_append_getElem hkb, dv_append, List.length_take, Nat.min_eq_left (by omega), List.getD_eq_getElem?_getD, List.getElem?_eq_getElem hkb]
      simp only [dv, Option.getD_some]; grind
    · rw [List.take_of_length_le (by omega), List.take_of_length_le (by omega), List.getD_eq_getElem?_getD, List.getElem?_eq_none (by omega)]
      simp
  rw [ht, ← Nat.add_assoc, bs]
  have hsd : s = 1048576 * (s / 1048576) + s % 1048576 := by omega
  generalize s / 1048576 = q at *
  generalize s % 1048576 = r at *
  generalize d.getD (i + k) 0 = y at *
  generalize a.getD i 0 = x at *
  generalize b.getD k 0 = z at *
  have hik := ba i k
  have hy : y = 1048576 * q + r - x * z - c := by omega
  subst hy
  have hdv : dv d = dv (a.take i) * dv b + x * dv (b.take k) * B ^ i - B ^ (i + k) * c := by omega
  rw [hdv]
  rw [hik]
  grind

theorem MulI.outer {a b : List Int} {i k : Nat} {d : List Int} (h : MulI a b i k d 0) (hi : i < a.length) (hk : b.length ≤ k) : MulI a b (i + 1) 0 d 0 := by
  refine ⟨h.len, h.ok, by omega, by omega, ?_⟩
  have hv := h.val
  rw [List.take_of_length_le hk] at hv
  have h4 : dv (a.take (i + 1)) = dv (a.take i) + B ^ i * a.getD i 0 := by
    rw [List.take_succ_eq_append_getElem hi, dv_append, List.length_take, Nat.min_eq_left (by omega), List.getD_eq_getElem?_getD, List.getElem?_eq_getElem hi]
    simp only [dv, Option.getD_some]; grind
  rw [h4]
  simp only [List.take_zero, dv]
  grind

theorem MulI.done {a b : List Int} {k : Nat} {d : List Int} (h : MulI a b a.length k d 0) : dv d = dv a * dv b := by
  have hv := h.val
  rw [List.take_length, List.getD_eq_getElem?_getD, List.getElem?_eq_none (by omega)] at hv
  simp at hv
  exact hv

end Go.Proofs.Ytgeoffpcmkofkaa.Dg
