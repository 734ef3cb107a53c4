/- Yd; Dig; Wk; Wl; Wm: texts laid into one. -/
import Derived.Test.YtgeoffpcmkofkaaQad
/- The walks of 'meetInLine' and 'Meet' of package segment. -/
namespace Go.Proofs.Ytgeoffpcmkofkaa
open Go.RowKit Fl
set_option maxRecDepth 100000
attribute [local go_sem ↓] Go.wp_at_zero Go.wp_at_succ

theorem New.kept {w1 w2 : World} (h : New w1 w2) {b o : Nat} {v : Value} (hc : w1.cell? ⟨b, o, none⟩ = some v) : w2.cell? ⟨b, o, none⟩ = some v :=
  (h.rule b o (World.block_lt_of_cell? w1 _ hc)).trans hc
theorem behind2 {w1 : World} {b o : Nat} {v : Value} (hc : w1.cell? ⟨b, o, none⟩ = some v) : ∀ o1 o2, ((w1.alloc o1).alloc o2).cell? ⟨b, o, none⟩ = some v := fun o1 o2 => ((New.alloc w1 o1).alloc' o2).kept hc

set_option maxHeartbeats 1600000 in
theorem line_any (ax ay bx by' cx cy dx dy : Int) (w : World) (ha : CdP (ax, ay)) (hb : CdP (bx, by')) (hc : CdP (cx, cy)) (hd : CdP (dx, dy)) :
    Calls Try.prog 64 #[.agg #[.int .i64 ax, .int .i64 ay, .int .i64 bx, .int .i64 by'], .agg #[.int .i64 cx, .int .i64 cy, .int .i64 dx, .int .i64 dy]] w fun e w' => e = .returned (.int .i64 (lineN (ax, ay) (bx, by') (cx, cy) (dx, dy))) ∧ Hid (New w w') := by
  go_enter Try.func64, Try.ntmps64
  go_wp2_with fail
  refine (sorted_any ax ay bx by' _ ha hb).mono ?_
  rintro e w1 ⟨fx, fy, lx, ly, rfl, HK1, H1⟩
  have HW1 : Hid (New w w1) := ((New.alloc _ _).alloc' _).trans' H1.out
  have t0 := behind2 (show w1.cell? ⟨w.heap.size + 1, 0, none⟩ = some (.int .i64 cx) by rw [H1.out.rule _ _ (by simp)]; go_simp)
  have t1 := behind2 (show w1.cell? ⟨w.heap.size + 1, 1, none⟩ = some (.int .i64 cy) by rw [H1.out.rule _ _ (by simp)]; go_simp)
  have t2 := behind2 (show w1.cell? ⟨w.heap.size + 1, 2, none⟩ = some (.int .i64 dx) by rw [H1.out.rule _ _ (by simp)]; go_simp)
  have t3 := behind2 (show w1.cell? ⟨w.heap.size + 1, 3, none⟩ = some (.int .i64 dy) by rw [H1.out.rule _ _ (by simp)]; go_simp)
  clear H1
  go_wp2_with fail
  refine (sorted_any cx cy dx dy _ hc hd).mono ?_
  rintro e w2 ⟨gx, gy, mx, my, rfl, HK2, H2⟩
  have HW2 : Hid (New w w2) := ((HW1.out.alloc' _).alloc' _).trans' H2.out
  have HC : Hid ((CdP (fx, fy) ∧ CdP (lx, ly)) ∧ (CdP (gx, gy) ∧ CdP (mx, my))) := ⟨Srt.cd HK1.out ha hb, Srt.cd HK2.out hc hd⟩
  have f0 := behind2 (show w2.cell? ⟨w1.heap.size, 0, none⟩ = some (.int .i64 fx) by rw [H2.out.rule _ _ (by simp; omega)]; go_simp)
  have f1 := behind2 (show w2.cell? ⟨w1.heap.size, 1, none⟩ = some (.int .i64 fy) by rw [H2.out.rule _ _ (by simp; omega)]; go_simp)
  have l0 : w2.cell? ⟨w1.heap.size + 1, 0, none⟩ = some (.int .i64 lx) := by rw [H2.out.rule _ _ (by simp)]; go_simp
  have l1 : w2.cell? ⟨w1.heap.size + 1, 1, none⟩ = some (.int .i64 ly) := by rw [H2.out.rule _ _ (by simp)]; go_simp
  clear t0 t1 t2 t3 H2
  go_wp2_with fail
  refine (sorted_any fx fy gx gy _ HC.out.1.1 HC.out.2.1).mono ?_
  rintro e w3 ⟨hx, hy, nx, ny, rfl, HK3, H3⟩
  have HW3 : Hid (New w w3) := ((HW2.out.alloc' _).alloc' _).trans' H3.out
  have HC3 : Hid (CdP (hx, hy) ∧ CdP (nx, ny)) := Srt.cd HK3.out HC.out.1.1 HC.out.2.1
  have l0' : w3.cell? ⟨w1.heap.size + 1, 0, none⟩ = some (.int .i64 lx) := H3.out.kept (behind2 l0 _ _)
  have l1' : w3.cell? ⟨w1.heap.size + 1, 1, none⟩ = some (.int .i64 ly) := H3.out.kept (behind2 l1 _ _)
  have m0 : w3.cell? ⟨w2.heap.size + 1, 0, none⟩ = some (.int .i64 mx) := by rw [H3.out.rule _ _ (by simp)]; go_simp
  have m1 : w3.cell? ⟨w2.heap.size + 1, 1, none⟩ = some (.int .i64 my) := by rw [H3.out.rule _ _ (by simp)]; go_simp
  have l0a := behind2 l0'
  have l1a := behind2 l1'
  have m0a := behind2 m0
  have m1a := behind2 m1
  clear H3 f0 f1 l0 l1
  go_wp2_with fail
  refine (sorted_any lx ly mx my _ HC.out.1.2 HC.out.2.2).mono ?_
  rintro e w4 ⟨ix, iy, ox, oy, rfl, HK4, H4⟩
  have HW4 : Hid (New w w4) := ((HW3.out.alloc' _).alloc' _).trans' H4.out
  have HC4 : Hid (CdP (ix, iy) ∧ CdP (ox, oy)) := Srt.cd HK4.out HC.out.1.2 HC.out.2.2
  have n0 : w4.cell? ⟨w3.heap.size + 1, 0, none⟩ = some (.int .i64 nx) := by rw [H4.out.rule _ _ (by simp)]; go_simp
  have n1 : w4.cell? ⟨w3.heap.size + 1, 1, none⟩ = some (.int .i64 ny) := by rw [H4.out.rule _ _ (by simp)]; go_simp
  have n0a := behind2 n0
  have n1a := behind2 n1
  clear H4 l0' l1' m0 m1 l0a l1a m0a m1a
  have HE : Hid (cmpP (ix, iy) (nx, ny) = sgn (K (ix, iy) - K (nx, ny))) := cmpP_eq HC4.out.1 HC3.out.2
  have HV : Hid ((0 < cmpP (ix, iy) (nx, ny) → lineN (ax, ay) (bx, by') (cx, cy) (dx, dy) = 3) ∧ (cmpP (ix, iy) (nx, ny) = 0 → lineN (ax, ay) (bx, by') (cx, cy) (dx, dy) = 2) ∧ (cmpP (ix, iy) (nx, ny) < 0 → lineN (ax, ay) (bx, by') (cx, cy) (dx, dy) = 0)) := by
    have k1 := HK1.out
    have k2 := HK2.out
    have k3 := HK3.out.2.1
    have k4 := HK4.out.1
    rw [k1.1, k2.1] at k3
    rw [k1.2.1, k2.2.1] at k4
    rw [Hid, HE.out, sgn_pos, sgn_zero, sgn_neg']
    unfold lineN
    rw [← k3, ← k4]
    refine ⟨fun h => by rw [if_pos (by omega)], fun h => by rw [if_neg (by omega), if_pos (by omega)], fun h => by rw [if_neg (by omega), if_neg (by omega)]⟩
  clear HK1 HK2 HK3 HK4 HC HC3 HC4 HE
  go_wp2_with fail
  refine (compare_any ix iy nx ny _).mono ?_
  rintro e w5 ⟨rfl, H5⟩
  have HW5 : Hid (New w w5) := ((HW4.out.alloc' _).alloc' _).trans' H5.out
  clear H5
  rcases Int.lt_trichotomy (cmpP (ix, iy) (nx, ny)) 0 with h | h | h
  · have HR : Hid (lineN (ax, ay) (bx, by') (cx, cy) (dx, dy) = 0) := HV.out.2.2 h
    go_wp2_with fail
    go_ret
    exact ⟨by rw [HR.out]; rfl, HW5⟩
  · have HR : Hid (lineN (ax, ay) (bx, by') (cx, cy) (dx, dy) = 2) := HV.out.2.1 h
    go_wp2_with fail
    go_ret
    exact ⟨by rw [HR.out]; rfl, HW5⟩
  · have HR : Hid (lineN (ax, ay) (bx, by') (cx, cy) (dx, dy) = 3) := HV.out.1 h
    go_wp2_with fail
    go_ret
    exact ⟨by rw [HR.out]; rfl, HW5⟩

end Go.Proofs.Ytgeoffpcmkofkaa
/- Whole numbers as lists of digits, the least first: sums, differences, products, which is the greater. -/
namespace Go.Proofs.Ytgeoffpcmkofkaa.Dg

abbrev B : Int := 1048576

/-- The number of some digits. -/
def dv : List Int → Int
  | [] => 0
  | d :: l => d + 1048576 * dv l

def Dok (ds : List Int) : Prop := ∀ d ∈ ds, 0 ≤ d ∧ d < 1048576
/-- None of the highest is 0. -/
def Tr (ds : List Int) : Prop := ∀ h : ds ≠ [], ds.getLast h ≠ 0

theorem bp (n : Nat) : (0 : Int) < B ^ n := Int.pow_pos (by decide)
theorem bs (n : Nat) : B ^ (n + 1) = 1048576 * B ^ n := by rw [Int.pow_succ, Int.mul_comm]
theorem ba (m n : Nat) : B ^ (m + n) = B ^ m * B ^ n := Int.pow_add B m n
theorem bm {m n : Nat} (h : m ≤ n) : B ^ m ≤ B ^ n := by
  obtain ⟨c, rfl⟩ := Nat.exists_eq_add_of_le h
  rw [ba]
  have h1 := bp m
  have h2 := bp c
  have : B ^ m * 1 ≤ B ^ m * B ^ c := Int.mul_le_mul_of_nonneg_left h2 (by omega)
  omega
theorem bl {m n : Nat} (h : B ^ m < B ^ n) : m < n := by
  rcases Nat.lt_or_ge m n with h1 | h1
  · exact h1
  · have := bm h1; omega

theorem dv_append (a b : List Int) : dv (a ++ b) = dv a + B ^ a.length * dv b := by
  induction a with
  | nil => simp [dv]
  | cons d l ih => simp only [List.cons_append, dv, ih, List.length_cons, bs]; grind

theorem Dok.nil : Dok [] := fun _ h => absurd h (by simp)
theorem Dok.append {a b : List Int} (ha : Dok a) (hb : Dok b) : Dok (a ++ b) := fun d hd => by
  rcases List.mem_append.1 hd with h | h
  · exact ha d h
  · exact hb d h
theorem Dok.one {d : Int} (h0 : 0 ≤ d) (h1 : d < 1048576) : Dok [d] := fun x hx => by rw [List.mem_singleton.1 hx]; exact ⟨h0, h1⟩
theorem Dok.take {a : List Int} (h : Dok a) (n : Nat) : Dok (a.take n) := fun d hd => h d (List.mem_of_mem_take hd)
theorem Dok.drop {a : List Int} (h : Dok a) (n : Nat) : Dok (a.drop n) := fun d hd => h d (List.mem_of_mem_drop hd)

theorem dv_nonneg {ds : List Int} (h : Dok ds) : 0 ≤ dv ds := by
  induction ds with
  | nil => simp [dv]
  | cons d l ih =>
    have h1 := h d (List.mem_cons_self ..)
    have h2 := ih (fun x hx => h x (List.mem_cons_of_mem _ hx))
    simp only [dv]; omega

theorem dv_lt {ds : List Int} (h : Dok ds) : dv ds < B ^ ds.length := by
  induction ds with
  | nil => simp [dv]
  | cons d l ih =>
    have h1 := h d (List.mem_cons_self ..)
    have h2 := ih (fun x hx => h x (List.mem_cons_of_mem _ hx))
    simp only [dv, List.length_cons, bs]; omega

theorem dv_split (ds : List Int) (n : Nat) (h : n ≤ ds.length) : dv ds = dv (ds.take n) + B ^ n * dv (ds.drop n) := by
  have := dv_append (ds.take n) (ds.drop n)
  rw [List.take_append_drop, List.length_take, Nat.min_eq_left h] at this
  exact this

theorem dv_drop (ds : List Int) (i : Nat) : dv (ds.drop i) = ds.getD i 0 + 1048576 * dv (ds.drop (i + 1)) := by
  by_cases h : i < ds.length
  · rw [List.drop_eq_getElem_cons h]
    simp only [dv]
    rw [List.getD_eq_getElem?_getD, List.getElem?_eq_getElem h]; rfl
  · rw [List.drop_eq_nil_of_le (by omega), List.drop_eq_nil_of_le (by omega), List.getD_eq_getElem?_getD, List.getElem?_eq_none (by omega)]; rfl

theorem getD_ok {ds : List Int} (h : Dok ds) (i : Nat) : 0 ≤ ds.getD i 0 ∧ ds.getD i 0 < 1048576 := by
  rw [List.getD_eq_getElem?_getD]
  by_cases hi : i < ds.length
  · rw [List.getElem?_eq_getElem hi]; exact h _ (List.getElem_mem hi)
  · rw [List.getElem?_eq_none (by omega)]; simp

theorem drop_last {ds : List Int} (hn : ds ≠ []) : ds.drop (ds.length - 1) = [ds.getLast hn] := by
  have hlen : 0 < ds.length := List.length_pos_iff.2 hn
  rw [List.drop_eq_getElem_cons (by omega), List.drop_eq_nil_of_le (by omega), List.getLast_eq_getElem]

/-- Of digits without 0 at the top the number is great. -/
theorem dv_ge {ds : List Int} (h : Dok ds) (ht : Tr ds) (hn : ds ≠ []) : B ^ (ds.length - 1) ≤ dv ds := by
  have h1 := ht hn
  have hlen : 0 < ds.length := List.length_pos_iff.2 hn
  have h2 := dv_split ds (ds.length - 1) (by omega)
  rw [drop_last hn] at h2
  have h3 := h _ (List.getLast_mem hn)
  have h4 := dv_nonneg (h.take (ds.length - 1))
  have h5 : B ^ (ds.length - 1) * 1 ≤ B ^ (ds.length - 1) * dv [ds.getLast hn] := by
    refine Int.mul_le_mul_of_nonneg_left ?_ (by have := bp (ds.length - 1); omega)
    simp only [dv]; omega
  omega

theorem tr_of {ds : List Int} (h : Dok ds) (hg : ds ≠ [] → B ^ (ds.length - 1) ≤ dv ds) : Tr ds := by
  intro hn h0
  have h1 := hg hn
  have hlen : 0 < ds.length := List.length_pos_iff.2 hn
  have h2 := dv_split ds (ds.length - 1) (by omega)
  rw [drop_last hn, h0] at h2
  simp only [dv] at h2
  have h3 := dv_lt (h.take (ds.length - 1))
  rw [List.length_take, Nat.min_eq_left (by omega)] at h3
  omega

theorem dv_zero {ds : List Int} (h : Dok ds) (ht : Tr ds) : dv ds = 0 ↔ ds = [] := by
  constructor
  · intro h0
    by_cases hn : ds = []
    · exact hn
    · have := dv_ge h ht hn
      have := bp (ds.length - 1)
      omega
  · rintro rfl; rfl

/-! ### Sums -/
structure AddI (a b : List Int) (i : Nat) (d : List Int) (c : Int) : Prop where
  len : d.length = i
  ok : Dok d
  c0 : 0 ≤ c
  c1 : c ≤ 1
  val : dv d + B ^ i * c + B ^ i * (dv (a.drop i) + dv (b.drop i)) = dv a + dv b
  top : i ≤ a.length ∨ i ≤ b.length ∨ B ^ (i - 1) ≤ dv a + dv b
  stop : i ≤ a.length + 1 ∨ i ≤ b.length + 1

theorem AddI.start (a b : List Int) : AddI a b 0 [] 0 := ⟨rfl, Dok.nil, by omega, by omega, by simp [dv], Or.inl (by omega), Or.inl (by omega)⟩

theorem AddI.next {a b : List Int} {i : Nat} {d : List Int} {c s : Int} (h : AddI a b i d c) (ha : Dok a) (hb : Dok b) (hgo : i < a.length ∨ i < b.length ∨ 0 < c) (hs : s = a.getD i 0 + b.getD i 0 + c) :
    AddI a b (i + 1) (d ++ [s % 1048576]) (s / 1048576) ∧ 0 ≤ s ∧ s < 2097152 := by
  have h1 := getD_ok ha i
  have h2 := getD_ok hb i
  have hc0 := h.c0
  have hc1 := h.c1
  have hsb : 0 ≤ s ∧ s < 2097152 := by omega
  refine ⟨⟨by simp [h.len], h.ok.append (Dok.one (by omega) (by omega)), by omega, by omega, ?_, ?_, ?_⟩, hsb.1, hsb.2⟩
  · have hv := h.val
    rw [dv_drop a i, dv_drop b i] at hv
    rw [dv_append, h.len, bs]
    have hsd : s = 1048576 * (s / 1048576) + s % 1048576 := by omega
    simp only [dv]
    generalize s / 1048576 = q at *
    generalize s % 1048576 = r at *
    rw [← hv]
    have : a.getD i 0 + b.getD i 0 = 1048576 * q + r - c := by omega
    generalize a.getD i 0 = x at *
    generalize b.getD i 0 = y at *
    have hx : x = 1048576 * q + r - c - y := by omega
    subst hx
    grind
  · rcases hgo with g | g | g
    · left; omega
    · right; left; omega
    · right; right
      have hv := h.val
      have h3 := dv_nonneg h.ok
      have h4 := dv_nonneg (ha.drop i)
      have h5 := dv_nonneg (hb.drop i)
      have hc : c = 1 := by omega
      subst hc
      have h6 : 0 ≤ B ^ i * (dv (a.drop i) + dv (b.drop i)) := Int.mul_nonneg (by have := bp i; omega) (by omega)
      simp only [Nat.add_sub_cancel]
      omega
  · have hst := h.stop
    rcases hgo with g | g | g
    · left; omega
    · right; omega
    · by_cases g1 : i < a.length + 1
      · left; omega
      · by_cases g2 : i < b.length + 1
        · right; omega
        · exfalso
          have hv := h.val
          rw [List.drop_eq_nil_of_le (by omega), List.drop_eq_nil_of_le (by omega)] at hv
          simp only [dv] at hv
          have h3 := dv_nonneg h.ok
          have h4 := dv_lt ha
          have h5 := dv_lt hb
          have hc : c = 1 := by omega
          subst hc
          have g3 := bm (show a.length ≤ i - 1 by omega)
          have g4 := bm (show b.length ≤ i - 1 by omega)
          have g5 := bs (i - 1)
          rw [show i - 1 + 1 = i by omega] at g5
          have g6 := bp (i - 1)
          omega

/-- At the end. -/
theorem AddI.done {a b : List Int} {i : Nat} {d : List Int} (h : AddI a b i d 0) (ha : Dok a) (hb : Dok b) (ta : Tr a) (tb : Tr b) (h1 : a.length ≤ i) (h2 : b.length ≤ i) : dv d = dv a + dv b ∧ Tr d := by
  have hv := h.val
  rw [List.drop_eq_nil_of_le h1, List.drop_eq_nil_of_le h2] at hv
  simp only [dv] at hv
  have hd : dv d = dv a + dv b := by omega
  refine ⟨hd, tr_of h.ok fun hn => ?_⟩
  have hl := h.len
  have hpos : 0 < d.length := List.length_pos_iff.2 hn
  have n1 := dv_nonneg ha
  have n2 := dv_nonneg hb
  rw [hd]
  rcases h.top with h3 | h3 | h3
  · have e : d.length = a.length := by omega
    have := dv_ge ha ta (by intro e2; rw [e2] at e; simp at e; exact hn e)
    rw [e]; omega
  · have e : d.length = b.length := by omega
    have := dv_ge hb tb (by intro e2; rw [e2] at e; simp at e; exact hn e)
    rw [e]; omega
  · rw [hl]; exact h3

/-! ### Differences -/
structure SubI (a b : List Int) (i : Nat) (d : List Int) (c : Int) : Prop where
  len : d.length = i
  ok : Dok d
  c0 : 0 ≤ c
  c1 : c ≤ 1
  val : dv d - B ^ i * c + B ^ i * (dv (a.drop i) - dv (b.drop i)) = dv a - dv b

theorem SubI.start (a b : List Int) : SubI a b 0 [] 0 := ⟨rfl, Dok.nil, by omega, by omega, by simp [dv]⟩

theorem SubI.next {a b : List Int} {i : Nat} {d : List Int} {c s t c' : Int} (h : SubI a b i d c) (ha : Dok a) (hb : Dok b) (hs : s = a.getD i 0 - b.getD i 0 - c) (ht : (s < 0 ∧ t = s + 1048576 ∧ c' = 1) ∨ (0 ≤ s ∧ t = s ∧ c' = 0)) :
    SubI a b (i + 1) (d ++ [t]) c' := by
  have h1 := getD_ok ha i
  have h2 := getD_ok hb i
  have hc0 := h.c0
  have hc1 := h.c1
  have htc : s = t - 1048576 * c' := by omega
  refine ⟨by simp [h.len], h.ok.append (Dok.one (by omega) (by omega)), by omega, by omega, ?_⟩
  have hv := h.val
  rw [dv_drop a i, dv_drop b i] at hv
  rw [dv_append, h.len, bs]
  simp only [dv]
  rw [← hv]
  generalize a.getD i 0 = x at *
  generalize b.getD i 0 = y at *
  have hx : x = t - 1048576 * c' + y + c := by omega
  subst hx
  grind

theorem SubI.done {a b d : List Int} {c : Int} (h : SubI a b a.length d c) (hb : Dok b) (hle : dv b ≤ dv a) : dv d = dv a - dv b := by
  have hv := h.val
  rw [List.drop_length] at hv
  simp only [dv] at hv
  have h1 := dv_lt h.ok
  rw [h.len] at h1
  have h2 := dv_nonneg (hb.drop a.length)
  have h3 := h.c0
  have h4 := bp a.length
  generalize dv (b.drop a.length) = y at *
  have h5 : B ^ a.length * c + B ^ a.length * y ≤ dv d := by
    have : B ^ a.length * (0 - y) = - (B ^ a.length * y) := by grind
    omega
  have h6 : B ^ a.length * (c + y) < B ^ a.length * 1 := by
    have : B ^ a.length * (c + y) = B ^ a.length * c + B ^ a.length * y := by grind
    omega
  have h7 := Int.lt_of_mul_lt_mul_left h6 (by omega)
  have hc : c = 0 := by omega
  have hy : y = 0 := by omega
  subst hc hy
  omega

/-! ### Trimming -/
theorem trim_step {ds : List Int} {n : Nat} (hn : n + 1 ≤ ds.length) (h0 : ds.getD n 0 = 0) (hv : dv (ds.take (n + 1)) = dv ds) : dv (ds.take n) = dv ds := by
  rw [List.take_succ_eq_append_getElem (by omega), dv_append] at hv
  rw [List.getD_eq_getElem?_getD, List.getElem?_eq_getElem (by omega)] at h0
  simp only [Option.getD_some] at h0
  rw [h0] at hv
  simp only [dv] at hv
  omega

theorem trim_tr {ds : List Int} {n : Nat} (hn : n ≤ ds.length) (h : n = 0 ∨ ds.getD (n - 1) 0 ≠ 0) : Tr (ds.take n) := by
  intro hne h0
  rcases h with h | h
  · subst h; simp at hne
  · have hn0 : n ≠ 0 := by rintro rfl; simp at hne
    apply h
    rw [List.getLast_eq_getElem] at h0
    rw [List.getD_eq_getElem?_getD, List.getElem?_eq_getElem (by omega)]
    simp only [Option.getD_some]
    rw [List.getElem_take] at h0
    have e : (List.take n ds).length - 1 = n - 1 := by rw [List.length_take, Nat.min_eq_left hn]
    simp only [e] at h0
    exact h0

/-! ### Which is the greater -/
theorem greater_len {a b : List Int} (ha : Dok a) (hb : Dok b) (ta : Tr a) (h : b.length < a.length) : dv b < dv a := by
  have h1 := dv_lt hb
  have h2 := dv_ge ha ta (by intro e; rw [e] at h; simp at h)
  have h3 := bm (show b.length ≤ a.length - 1 by omega)
  omega

theorem greater_at {a b : List Int} (ha : Dok a) (hb : Dok b) (hl : a.length = b.length) {i : Nat} (hi : i < a.length) (he : dv (a.drop (i + 1)) = dv (b.drop (i + 1))) (h : b.getD i 0 < a.getD i 0) : dv b < dv a := by
  have h1 := dv_split a i (by omega)
  have h2 := dv_split b i (by omega)
  rw [dv_drop a i] at h1
  rw [dv_drop b i, ← he] at h2
  have h3 := dv_lt (hb.take i)
  rw [List.length_take, Nat.min_eq_left (by omega)] at h3
  have h4 := dv_nonneg (ha.take i)
  have h5 := bp i
  generalize a.getD i 0 = x at *
  generalize b.getD i 0 = y at *
  generalize dv (a.drop (i + 1)) = z at *
  have h6 : B ^ i * (y + 1) ≤ B ^ i * x := Int.mul_le_mul_of_nonneg_left (by omega) (by omega)
  have e1 : B ^ i * (x + 1048576 * z) = B ^ i * x + B ^ i * (1048576 * z) := by grind
  have e2 : B ^ i * (y + 1048576 * z) = B ^ i * (y + 1) - B ^ i + B ^ i * (1048576 * z) := by grind
  rw [e1] at h1
  rw [e2] at h2
  omega

/-! ### Products -/
theorem dv_set {d : List Int} {j : Nat} (hj : j < d.length) (x : Int) : dv (d.set j x) = dv d + B ^ j * (x - d.getD j 0) := by
  induction d generalizing j with
  | nil => simp at hj
  | cons y l ih =>
    cases j with
    | zero => simp [dv]; omega
    | succ j =>
      have := ih (j := j) (by simpa using hj)
      simp only [List.set_cons_succ, dv, this, List.getD_cons_succ, bs]
      grind

theorem dok_set {d : List Int} (h : Dok d) (j : Nat) {x : Int} (h0 : 0 ≤ x) (h1 : x < 1048576) : Dok (d.set j x) := by
  intro y hy
  rcases List.mem_or_eq_of_mem_set hy with hy | rfl
  · exact h y hy
  · exact ⟨h0, h1⟩

theorem dv_zeros (n : Nat) : dv (List.replicate n 0) = 0 := by
  induction n with
  | zero => rfl
  | succ n ih => simp [List.replicate_succ, dv, ih]

theorem dok_zeros (n : Nat) : Dok (List.replicate n 0) := fun d hd => by
  rw [List.eq_of_mem_replicate hd]; omega

/-- At digit i of a, digit k of b. -/
structure MulI (a b : List Int) (i k : Nat) (d : List Int) (c : Int) : Prop where
  len : d.length = a.length + b.length + 1
  ok : Dok d
  c0 : 0 ≤ c
  c1 : c < 1048576
  val : dv d + B ^ (i + k) * c = dv (a.take i) * dv b + a.getD i 0 * dv (b.take k) * B ^ i

theorem MulI.start (a b : List Int) : MulI a b 0 0 (List.replicate (a.length + b.length + 1) 0) 0 :=
  ⟨by simp, dok_zeros _, by omega, by omega, by simp [dv, dv_zeros]⟩

/-- While there is something to carry the place is not past the end. -/
theorem MulI.place {a b : List Int} {i k : Nat} {d : List Int} {c : Int} (h : MulI a b i k d c) (ha : Dok a) (hb : Dok b) (hi : i < a.length) (hgo : k < b.length ∨ 0 < c) : k ≤ b.length := by
  rcases hgo with g | g
  · omega
  · by_cases hk : k ≤ b.length
    · exact hk
    · exfalso
      have hv := h.val
      rw [List.take_of_length_le (by omega : b.length ≤ k)] at hv
      have h1 := dv_nonneg h.ok
      have h2 := bp (i + k)
      have h3 : B ^ (i + k) * 1 ≤ B ^ (i + k) * c := Int.mul_le_mul_of_nonneg_left (by omega) (by omega)
      have h4 : dv (a.take (i + 1)) = dv (a.take i) + B ^ i * a.getD i 0 := by
        rw [List.take_succ_eq_append_getElem hi, dv_append, List.length_take, Nat.min_eq_left (by omega), List.getD_eq_getElem?_getD, List.getElem?_eq_getElem hi]
        simp only [dv, Option.getD_some]; grind
      have h5 := dv_lt (ha.take (i + 1))
      rw [List.length_take, Nat.min_eq_left (by omega)] at h5
      have h6 := dv_lt hb
      have h7 := dv_nonneg hb
      have h8 := dv_nonneg (ha.take (i + 1))
      have h9 : dv (a.take (i + 1)) * dv b ≤ dv (a.take (i + 1)) * B ^ b.length := Int.mul_le_mul_of_nonneg_left (by omega) h8
      have h10 : dv (a.take (i + 1)) * B ^ b.length < B ^ (i + 1) * B ^ b.length := Int.mul_lt_mul_of_pos_right h5 (bp _)
      rw [← ba] at h10
      have h11 := bm (show i + 1 + b.length ≤ i + k by omega)
      have e : dv (a.take (i + 1)) * dv b = dv (a.take i) * dv b + a.getD i 0 * dv b * B ^ i := by rw [h4]; grind
      omega

theorem MulI.next {a b : List Int} {i k : Nat} {d : List Int} {c s : Int} (h : MulI a b i k d c) (ha : Dok a) (hb : Dok b) (hi : i < a.length) (hk : k ≤ b.length) (hs : s = d.getD (i + k) 0 + a.getD i 0 * b.getD k 0 + c) :
    MulI a b i (k + 1) (d.set (i + k) (s % 1048576)) (s / 1048576) ∧ 0 ≤ s ∧ s < 1099511627776 := by
  have h1 := getD_ok ha i
  have h2 := getD_ok hb k
  have h3 := getD_ok h.ok (i + k)
  have hc0 := h.c0
  have hc1 := h.c1
  have hp : a.getD i 0 * b.getD k 0 ≤ 1048575 * 1048575 := Int.mul_le_mul (by omega) (by omega) (by omega) (by omega)
  have hp0 : 0 ≤ a.getD i 0 * b.getD k 0 := Int.mul_nonneg (by omega) (by omega)
  have hsb : 0 ≤ s ∧ s < 1099511627776 := by omega
  refine ⟨⟨by simp [h.len], dok_set h.ok _ (by omega) (by omega), by omega, by omega, ?_⟩, hsb.1, hsb.2⟩
  have hv := h.val
  have hlen := h.len
  rw [dv_set (by omega)]
  have ht : dv (b.take (k + 1)) = dv (b.take k) + B ^ k * b.getD k 0 := by
    by_cases hkb : k < b.length
    · rw [List.take_succ_eq_append_getElem hkb, dv_append, List.length_take, Nat.min_eq_left (by omega), List.getD_eq_getElem?_getD, List.getElem?_eq_getElem hkb]
      simp only [dv, Option.getD_some]; grind
    · rw [List.take_of_length_le (by omega), List.take_of_length_le (by omega), List.getD_eq_getElem?_getD, List.getElem?_eq_none (by omega)]
      simp
  rw [ht, ← Nat.add_assoc, bs]
  have hsd : s = 1048576 * (s / 1048576) + s % 1048576 := by omega
  generalize s / 1048576 = q at *
  generalize s % 1048576 = r at *
  generalize d.getD (i + k) 0 = y at *
  generalize a.getD i 0 = x at *
  generalize b.getD k 0 = z at *
  have hik := ba i k
  have hy : y = 1048576 * q + r - x * z - c := by omega
  subst hy
  have hdv : dv d = dv (a.take i) * dv b + x * dv (b.take k) * B ^ i - B ^ (i + k) * c := by omega
  rw [hdv]
  rw [hik]
  grind

theorem MulI.outer {a b : List Int} {i k : Nat} {d : List Int} (h : MulI a b i k d 0) (hi : i < a.length) (hk : b.length ≤ k) : MulI a b (i + 1) 0 d 0 := by
  refine ⟨h.len, h.ok, by omega, by omega, ?_⟩
  have hv := h.val
  rw [List.take_of_length_le hk] at hv
  have h4 : dv (a.take (i + 1)) = dv (a.take i) + B ^ i * a.getD i 0 := by
    rw [List.take_succ_eq_append_getElem hi, dv_append, List.length_take, Nat.min_eq_left (by omega), List.getD_eq_getElem?_getD, List.getElem?_eq_getElem hi]
    simp only [dv, Option.getD_some]; grind
  rw [h4]
  simp only [List.take_zero, dv]
  grind

theorem MulI.done {a b : List Int} {k : Nat} {d : List Int} (h : MulI a b a.length k d 0) : dv d = dv a * dv b := by
  have hv := h.val
  rw [List.take_length, List.getD_eq_getElem?_getD, List.getElem?_eq_none (by omega)] at hv
  simp at hv
  exact hv

end Go.Proofs.Ytgeoffpcmkofkaa.Dg
/- The walks of package plumbref: 'digit', 'trim', 'greater'. -/
namespace Go.Proofs.Ytgeoffpcmkofkaa
open Go.RowKit Fl Dg
set_option maxRecDepth 100000

/-- A list of digits in memory. -/
structure Dl (w : World) (v : Value) (ds : List Int) : Prop where
  own : w.ownsRow 0 3 1 v ds.length (ds.map (Value.int .i64))
  ok : Dok ds
  few : ds.length ≤ 1000

theorem Dl.kept {w w' : World} {v : Value} {ds : List Int} (h : Dl w v ds) (hn : New w w') : Dl w' v ds :=
  ⟨h.own.kept hn (by cases hv : v.ownBlock <;> simp), h.ok, h.few⟩

/-- What 'trim' leaves. -/
def Trimmed (w : World) (v : Value) (ds : List Int) (e : Ending) (w' : World) : Prop := ∃ (v' : Value) (ds' : List Int), e = .returned v' ∧ w = w' ∧ Hid (Dl w v' ds' ∧ dv ds' = dv ds ∧ Tr ds' ∧ ds'.length ≤ ds.length ∧ v'.ownBlock = v.ownBlock)
theorem Trimmed.mk {w : World} {ds ds' : List Int} {v v' : Value} (h1 : Dl w v' ds') (h2 : dv ds' = dv ds) (h3 : Tr ds') (h4 : ds'.length ≤ ds.length) (h5 : v'.ownBlock = v.ownBlock) : Trimmed w v ds (.returned v') w := ⟨v', ds', rfl, rfl, h1, h2, h3, h4, h5⟩

/-- Its two shapes. -/
theorem Dl.shape {w : World} {v : Value} {ds : List Int} (h : Dl w v ds) : (v = .slice none 0 0 ∧ ds = []) ∨ ∃ g cap, v = .slice (some ⟨g, 0, none⟩) ds.length cap ∧ ds.length ≤ cap ∧ cap ≤ maxLen ∧ (∀ i (hi : i < ds.length), w.cell? ⟨g, i, none⟩ = some (.int .i64 ds[i])) := by
  rcases h.own.2 with ⟨h1, h2⟩ | ⟨g, cap, cur, h1, _, h2, h3, h4, h5, h6⟩
  · exact Or.inl ⟨h1, List.eq_nil_of_length_eq_zero h2⟩
  · refine Or.inr ⟨g, cap, h1, h3, h4, fun i hi => ?_⟩
    rw [cell_of_row w g i cur 3 (0, 0) h2]
    have : (cur.toList.take (ds.length * 1))[i]? = some (.int .i64 ds[i]) := by rw [h6]; simp [hi]
    rw [List.getElem?_take_of_lt (by omega)] at this
    simpa using this

set_option maxHeartbeats 400000 in
theorem digit_any (v : Value) (ds : List Int) (i : Nat) (w : World) (h : Dl w v ds) (_hi : i ≤ 1000) :
    Calls Try.prog 58 #[v, .int .i64 i] w fun e w' => e = .returned (.int .i64 (ds.getD i 0)) ∧ w = w' := by
  have hfew := h.few
  rcases h.shape with ⟨rfl, rfl⟩ | ⟨g, cap, rfl, hc, hm, hcell⟩
  · go_enter Try.func58, Try.ntmps58
    go_wp2
    go_ret
    exact ⟨by simp, rfl⟩
  · unfold maxLen at hm
    by_cases hlt : i < ds.length
    · have hc1 := hcell i hlt
      have HD : Hid (ds.getD i 0 = ds[i]) := by rw [Hid, List.getD_eq_getElem?_getD, List.getElem?_eq_getElem hlt]; rfl
      clear hcell
      go_enter Try.func58, Try.ntmps58
      go_wp2
      go_ret
      exact ⟨by rw [HD.out]; rfl, rfl⟩
    · have HD : Hid (ds.getD i 0 = 0) := by rw [Hid, List.getD_eq_getElem?_getD, List.getElem?_eq_none (by omega)]; rfl
      clear hcell
      go_enter Try.func58, Try.ntmps58
      go_wp2
      go_ret
      exact ⟨by rw [HD.out]; rfl, rfl⟩

theorem Dl.take {w : World} {g cap : Nat} {ds : List Int} (h : Dl w (.slice (some ⟨g, 0, none⟩) ds.length cap) ds) {n : Nat} (hn : n ≤ ds.length) : Dl w (.slice (some ⟨g, 0, none⟩) n cap) (ds.take n) := by
  have hl : (ds.take n).length = n := by rw [List.length_take, Nat.min_eq_left hn]
  refine ⟨?_, h.ok.take n, by have := h.few; omega⟩
  rw [hl]
  refine ⟨by rw [List.length_map, hl, Nat.mul_one], ?_⟩
  rcases h.own.2 with ⟨h1, h2⟩ | ⟨g', cap', cur, h1, h0, h2, h3, h4, h5, h6⟩
  · cases h1
  · cases h1
    refine Or.inr ⟨g, cap, cur, rfl, h0, h2, by omega, h4, h5, ?_⟩
    have := congrArg (List.take n) h6
    rw [List.take_take, Nat.mul_one, Nat.min_eq_left hn] at this
    rw [Nat.mul_one, this, List.map_take]

theorem Dl.nil (w : World) : Dl w (.slice none 0 0) [] := ⟨World.ownsRow_nil w 0 3 1, Dok.nil, by simp⟩

set_option maxHeartbeats 800000 in
theorem trim_any (v : Value) (ds : List Int) (w : World) (h : Dl w v ds) :
    Calls Try.prog 59 #[v] w fun e w' => Trimmed w v ds e w' := by
  have hfew := h.few
  have HH : Hid (Dl w v ds) := h
  rcases h.shape with ⟨rfl, rfl⟩ | ⟨g, cap, rfl, hc, hm, hcell⟩
  · clear h
    go_enter Try.func59, Try.ntmps59
    go_wp2
    refine wp_loop_rounds 1 ?_
    rw [rounds_succ]
    go_wp2
    go_ret
    exact Trimmed.mk (Dl.nil w) rfl (fun h => absurd rfl h) (by simp) rfl
  · unfold maxLen at hm
    clear h
    go_enter Try.func59, Try.ntmps59
    go_wp2_with fail
    go_loop [3] (fun i => ∃ n : Nat, i = .int .i64 n ∧ n ≤ ds.length ∧ Hid (dv (ds.take n) = dv ds))
      (fun i => (intOf i).toNat)
    case atStart => exact ⟨ds.length, rfl, Nat.le_refl _, by rw [Hid, List.take_length]⟩
    case round =>
      obtain ⟨n, rfl, hn, H⟩ := hrel
      by_cases h0 : n = 0
      · subst h0
        clear hcell
        go_wp2_with fail
        go_ret
        exact Trimmed.mk (HH.out.take (Nat.zero_le _)) H.out (trim_tr (Nat.zero_le _) (Or.inl rfl)) (by simp) rfl
      · obtain ⟨m, rfl⟩ : ∃ m, n = m + 1 := ⟨n - 1, by omega⟩
        have hc1 := hcell m (by omega)
        have HG : Hid (ds.getD m 0 = ds[m]'(by omega)) := by rw [Hid, List.getD_eq_getElem?_getD, List.getElem?_eq_getElem (by omega)]; rfl
        clear hcell h0
        by_cases hz : ds[m]'(by omega) = 0
        · rw [hz] at hc1
          have HZ : Hid (ds[m]'(by omega) = 0) := hz
          clear hz
          go_wp2_with fail
          go_round
          case rel => exact ⟨m, by go_num, by omega, trim_step hn (HG.out.trans HZ.out) H.out⟩
          case measure => simp [intOf]
        · have hzb : (ds[m]'(by omega) == 0) = false := by simpa using hz
          have HZ : Hid (ds[m]'(by omega) ≠ 0) := hz
          clear hz
          go_wp2_with fail
          go_ret
          exact Trimmed.mk (HH.out.take hn) H.out (trim_tr hn (Or.inr (by rw [Nat.add_sub_cancel, HG.out]; exact HZ.out))) (by simp; omega) rfl

end Go.Proofs.Ytgeoffpcmkofkaa
/- The walks of package plumbref: 'greater', 'Minus', 'Sign'. -/
namespace Go.Proofs.Ytgeoffpcmkofkaa
open Go.RowKit Fl Dg
set_option maxRecDepth 100000

/-- Is the one number greater? -/
def gtB (a b : List Int) : Bool := decide (dv b < dv a)

/-- What is known of two lists of digits of one length. -/
structure Two (w : World) (g1 g2 n : Nat) (a b : List Int) : Prop where
  la : a.length = n
  lb : b.length = n
  oka : Dok a
  okb : Dok b
  lt1 : g1 < w.heap.size
  lt2 : g2 < w.heap.size
  k1 : ∀ i, i < n → w.cell? ⟨g1, i, none⟩ = some (.int .i64 (a.getD i 0))
  k2 : ∀ i, i < n → w.cell? ⟨g2, i, none⟩ = some (.int .i64 (b.getD i 0))

theorem Two.end1 {w : World} {g1 g2 n : Nat} {a b : List Int} (h : Two w g1 g2 n a b) {m : Nat} (hm : m < n) (he : dv (a.drop (m + 1)) = dv (b.drop (m + 1))) (hlt : b.getD m 0 < a.getD m 0) : gtB a b = true :=
  decide_eq_true (greater_at h.oka h.okb (h.la.trans h.lb.symm) (by rw [h.la]; exact hm) he hlt)
theorem Two.end2 {w : World} {g1 g2 n : Nat} {a b : List Int} (h : Two w g1 g2 n a b) {m : Nat} (hm : m < n) (he : dv (a.drop (m + 1)) = dv (b.drop (m + 1))) (hlt : a.getD m 0 < b.getD m 0) : gtB a b = false := by
  have := greater_at h.okb h.oka (h.lb.trans h.la.symm) (by rw [h.lb]; exact hm) he.symm hlt
  exact decide_eq_false (by omega)

set_option maxHeartbeats 800000 in
theorem greater_same (g1 c1 g2 c2 n : Nat) (a b : List Int) (w : World) (hT : Two w g1 g2 n a b) (hf : n ≤ 1000) (h1 : n ≤ c1) (h2 : n ≤ c2) :
    Calls Try.prog 61 #[.slice (some ⟨g1, 0, none⟩) n c1, .slice (some ⟨g2, 0, none⟩) n c2] w fun e w' => e = .returned (.bool (gtB a b)) ∧ Hid (New w w') := by
  have hne : ((n : Int) != n) = false := by simp
  go_enter Try.func61, Try.ntmps61
  go_wp2_with fail
  go_loopw [5] (fun i wr => ((∃ m : Nat, i = .int .i64 m ∧ m < n ∧ Hid (dv (a.drop (m + 1)) = dv (b.drop (m + 1)))) ∨ (i = .int .i64 (-1) ∧ Hid (dv a = dv b))) ∧ Hid (New w wr))
    (fun i _ => (intOf i + 1).toNat)
  case atStart =>
    refine ⟨?_, New.refl _⟩
    by_cases h0 : n = 0
    · right
      subst h0
      have ea := List.eq_nil_of_length_eq_zero hT.la
      have eb := List.eq_nil_of_length_eq_zero hT.lb
      exact ⟨rfl, by rw [Hid, ea, eb]⟩
    · left
      refine ⟨n - 1, by have e : ((n - 1 : Nat) : Int) = (n : Int) - 1 := by omega
                        rw [e], by omega, ?_⟩
      rw [Hid, show n - 1 + 1 = n by omega, List.drop_eq_nil_of_le (by rw [hT.la]; exact Nat.le_refl _), List.drop_eq_nil_of_le (by rw [hT.lb]; exact Nat.le_refl _)]
  case round =>
    obtain ⟨hrel, HN⟩ := hrel
    rcases hrel with ⟨m, rfl, hm, H⟩ | ⟨rfl, H⟩
    · have c1' : wr.cell? ⟨g1, m, none⟩ = some (.int .i64 (a.getD m 0)) := by rw [HN.out.rule g1 m hT.lt1]; exact hT.k1 m hm
      have c2' : wr.cell? ⟨g2, m, none⟩ = some (.int .i64 (b.getD m 0)) := by rw [HN.out.rule g2 m hT.lt2]; exact hT.k2 m hm
      obtain ⟨x, hx⟩ : ∃ x, x = a.getD m 0 := ⟨_, rfl⟩
      obtain ⟨y, hy⟩ : ∃ y, y = b.getD m 0 := ⟨_, rfl⟩
      rw [← hx] at c1'
      rw [← hy] at c2'
      have HX : Hid (x = a.getD m 0 ∧ y = b.getD m 0) := ⟨hx, hy⟩
      clear hx hy
      by_cases hxy : x = y
      · subst hxy
        have hb : (x != x) = false := by simp
        go_wp2_with fail
        go_quiet (fail)
        go_wp2_with fail
        go_roundw
        case rel =>
          refine ⟨?_, HN.out.drewN _⟩
          have hv : dv (a.drop m) = dv (b.drop m) := by rw [dv_drop a m, dv_drop b m, H.out, ← HX.out.1, ← HX.out.2]
          by_cases h0 : m = 0
          · right
            subst h0
            exact ⟨rfl, hv⟩
          · left
            refine ⟨m - 1, ?_, by omega, ?_⟩
            · have e : ((m - 1 : Nat) : Int) = (m : Int) - 1 := by omega
              rw [e]
            · rw [Hid, show m - 1 + 1 = m by omega]; exact hv
        case measure => simp [intOf]
      · have hb : (x != y) = true := by simpa using hxy
        go_wp2_with fail
        go_quiet (fail)
        go_wp2_with fail
        go_quiet (fail)
        go_wp2_with fail
        go_ret
        refine ⟨?_, (HN.out.drewN _).drewN _⟩
        rcases Int.lt_or_gt_of_ne hxy with hlt | hgt
        · rw [hT.end2 hm H.out (by rw [← HX.out.1, ← HX.out.2]; exact hlt)]
          have : decide (y < x) = false := decide_eq_false (by omega)
          rw [← this]; rfl
        · rw [hT.end1 hm H.out (by rw [← HX.out.1, ← HX.out.2]; exact hgt)]
          have : decide (y < x) = true := decide_eq_true (by omega)
          rw [← this]; rfl
    · go_wp2_with fail
      go_ret
      have e : gtB a b = false := decide_eq_false (by have := H.out; omega)
      exact ⟨by rw [e]; rfl, HN.out⟩

set_option maxHeartbeats 400000 in
theorem greater_diff (a1 a2 : Option Addr) (n1 c1 n2 c2 : Nat) (w : World) (h : n1 ≠ n2) (_h1 : n1 ≤ 1000) (_h2 : n2 ≤ 1000) :
    Calls Try.prog 61 #[.slice a1 n1 c1, .slice a2 n2 c2] w fun e w' => e = .returned (.bool (decide (n2 < n1))) ∧ Hid (New w w') := by
  have hne : ((n1 : Int) != n2) = true := by simp; omega
  have HD : Hid (decide (n2 < n1) = decide ((n2 : Int) < n1)) := by rw [Hid, decide_eq_decide]; omega
  go_enter Try.func61, Try.ntmps61
  go_wp2
  all_goals
    go_ret
    exact ⟨by rw [HD.out]; rfl, New.refl _⟩

set_option maxHeartbeats 400000 in
theorem greater_zero (a1 a2 : Option Addr) (c1 c2 : Nat) (w : World) :
    Calls Try.prog 61 #[.slice a1 0 c1, .slice a2 0 c2] w fun e w' => e = .returned (.bool false) ∧ Hid (New w w') := by
  go_enter Try.func61, Try.ntmps61
  go_wp2
  refine wp_loop_rounds 1 ?_
  rw [rounds_succ]
  go_wp2
  go_ret
  exact ⟨rfl, New.refl _⟩

theorem Dl.two {w : World} {g1 c1 g2 c2 : Nat} {a b : List Int} (ha : Dl w (.slice (some ⟨g1, 0, none⟩) a.length c1) a) (hb : Dl w (.slice (some ⟨g2, 0, none⟩) b.length c2) b) (hl : b.length = a.length) : Two w g1 g2 a.length a b := by
  have l1 := ha.own.lt g1 rfl
  have l2 := hb.own.lt g2 rfl
  refine ⟨rfl, hl, ha.ok, hb.ok, l1.2, l2.2, ?_, ?_⟩
  · intro i hi
    have := ha.own.cells (g := g1) rfl i (.int .i64 (a.getD i 0)) (by rw [List.getElem?_map, List.getD_eq_getElem?_getD, List.getElem?_eq_getElem hi]; rfl)
    rwa [Addr.add_lit, Nat.zero_add] at this
  · intro i hi
    have hi' : i < b.length := by omega
    have := hb.own.cells (g := g2) rfl i (.int .i64 (b.getD i 0)) (by rw [List.getElem?_map, List.getD_eq_getElem?_getD, List.getElem?_eq_getElem hi']; rfl)
    rwa [Addr.add_lit, Nat.zero_add] at this

theorem greater_any (v1 v2 : Value) (a b : List Int) (w : World) (ha : Dl w v1 a) (hb : Dl w v2 b) (ta : Tr a) (tb : Tr b) :
    Calls Try.prog 61 #[v1, v2] w fun e w' => e = .returned (.bool (gtB a b)) ∧ Hid (New w w') := by
  have diff : a.length ≠ b.length → decide (b.length < a.length) = gtB a b := by
    intro hne
    rcases Nat.lt_or_gt_of_ne hne with h | h
    · have := greater_len hb.ok ha.ok tb h
      rw [gtB, decide_eq_false (by omega), decide_eq_false (by omega)]
    · have := greater_len ha.ok hb.ok ta h
      rw [gtB, decide_eq_true this, decide_eq_true h]
  have zero : a = [] → b = [] → false = gtB a b := by rintro rfl rfl; rfl
  have fa := ha.few
  have fb := hb.few
  rcases ha.shape with ⟨rfl, rfl⟩ | ⟨g1, c1, rfl, hc1, _, _⟩
  · rcases hb.shape with ⟨rfl, rfl⟩ | ⟨g2, c2, rfl, hc2, _, _⟩
    · rw [← zero rfl rfl]; exact greater_zero _ _ _ _ w
    · by_cases h0 : b.length = 0
      · rw [← zero rfl (List.eq_nil_of_length_eq_zero h0), h0]; exact greater_zero _ _ _ _ w
      · rw [← diff (by simpa using Ne.symm h0)]; exact greater_diff _ _ 0 _ _ _ w (Ne.symm h0) (by omega) fb
  · rcases hb.shape with ⟨rfl, rfl⟩ | ⟨g2, c2, rfl, hc2, _, _⟩
    · by_cases h0 : a.length = 0
      · rw [← zero (List.eq_nil_of_length_eq_zero h0) rfl, h0]; exact greater_zero _ _ _ _ w
      · rw [← diff (by simpa using h0)]; exact greater_diff _ _ _ _ 0 _ w h0 fa (by omega)
    · by_cases hl : b.length = a.length
      · rw [hl] at hc2 ⊢
        exact greater_same g1 c1 g2 c2 a.length a b w (ha.two hb hl) fa hc1 hc2
      · rw [← diff (Ne.symm hl)]; exact greater_diff _ _ _ _ _ _ w (Ne.symm hl) fa fb

/-- The number that a sign and digits are. -/
def nv (neg : Bool) (ds : List Int) : Int := if neg then -dv ds else dv ds

/-- A Num in memory. -/
structure Nu (w : World) (n : Value) (x : Int) (L : Nat) : Prop where
  mk ::
  ex : ∃ (neg : Bool) (v : Value) (ds : List Int), n = .agg #[.bool neg, v] ∧ Dl w v ds ∧ Tr ds ∧ x = nv neg ds ∧ ds.length ≤ L

theorem Nu.kept {w w' : World} {n : Value} {x : Int} {L : Nat} (h : Nu w n x L) (hn : New w w') : Nu w' n x L := by
  obtain ⟨neg, v, ds, h1, h2, h3⟩ := h.ex
  exact ⟨⟨neg, v, ds, h1, h2.kept hn, h3⟩⟩

/-- A Num as an answer. -/
def NuRet (w : World) (x : Int) (L : Nat) (e : Ending) (w' : World) : Prop := ∃ n, e = .returned n ∧ Hid (Nu w' n x L ∧ New w w')
theorem NuRet.mk {w w' : World} {x : Int} {L : Nat} {n : Value} (h1 : Nu w' n x L) (h2 : New w w') : NuRet w x L (.returned n) w' := ⟨n, rfl, h1, h2⟩

theorem nv_neg (neg : Bool) (ds : List Int) : nv (!neg) ds = -nv neg ds := by cases neg <;> simp [nv]

theorem slice_val {w : World} {v : Value} {ds : List Int} (h : Dl w v ds) : ∃ ao n c, v = .slice ao n c ∧ n = ds.length := by
  rcases h.shape with ⟨rfl, rfl⟩ | ⟨g, cap, rfl, _⟩
  · exact ⟨_, _, _, rfl, rfl⟩
  · exact ⟨_, _, _, rfl, rfl⟩

set_option maxHeartbeats 400000 in
theorem minus_num (n : Value) (x : Int) (L : Nat) (w : World) (h : Nu w n x L) :
    Calls Try.prog 42 #[n] w fun e w' => NuRet w (-x) L e w' := by
  obtain ⟨neg, v, ds, rfl, h1, h2, h3, h4⟩ := h.ex
  obtain ⟨ao, m, c, rfl, hm⟩ := slice_val h1
  have H : Hid (∀ w', New w w' → NuRet w (-x) L (.returned (.agg #[.bool !neg, .slice ao m c])) w') := fun w' hn => NuRet.mk ⟨⟨!neg, _, ds, rfl, h1.kept hn, h2, by rw [h3, nv_neg], h4⟩⟩ hn
  clear h h1 h2 h3 h4 hm
  go_enter Try.func42, Try.ntmps42
  go_wp2
  exact bodyPost_ret (v := .agg #[.bool !neg, .slice ao m c]) (by simp [results, Try.results42, go_sem]) rfl (H.out _ ((New.alloc _ _).alloc' _))

set_option maxHeartbeats 400000 in
theorem sign_num (n : Value) (x : Int) (L : Nat) (w : World) (h : Nu w n x L) (hL : L ≤ 1000) :
    Calls Try.prog 40 #[n] w fun e w' => e = .returned (.int .i64 (sgn x)) ∧ Hid (New w w') := by
  obtain ⟨neg, v, ds, rfl, h1, h2, h3, h4⟩ := h.ex
  obtain ⟨ao, m, c, rfl, hm⟩ := slice_val h1
  have hz := dv_zero h1.ok h2
  have hnn := dv_nonneg h1.ok
  have hm2 : m ≤ 1000 := by omega
  by_cases h0 : m = 0
  · have hd : ds = [] := List.eq_nil_of_length_eq_zero (by omega)
    have HS : Hid (sgn x = 0) := by rw [Hid, h3, hd]; cases neg <;> rfl
    clear h h1 h2 h3 h4 hm hz hnn hd
    subst h0
    go_enter Try.func40, Try.ntmps40
    go_wp2
    go_ret
    exact ⟨by rw [HS.out]; rfl, New.alloc _ _⟩
  · have hd : dv ds ≠ 0 := fun e => by have := hz.1 e; rw [this] at hm; simp at hm; omega
    have hb : ((m : Int) == 0) = false := by rw [beq_eq_false_iff_ne]; omega
    cases neg with
    | true =>
      have HS : Hid (sgn x = -1) := by rw [Hid, h3, nv, if_pos rfl, sgn, if_pos (by omega)]
      clear h h1 h2 h3 h4 hm hz hnn hd h0
      go_enter Try.func40, Try.ntmps40
      go_wp2
      go_ret
      exact ⟨by rw [HS.out]; rfl, New.alloc _ _⟩
    | false =>
      have HS : Hid (sgn x = 1) := by rw [Hid, h3, nv, if_neg (by simp), sgn, if_neg (by omega), if_neg (by omega)]
      clear h h1 h2 h3 h4 hm hz hnn hd h0
      go_enter Try.func40, Try.ntmps40
      go_wp2
      go_ret
      exact ⟨by rw [HS.out]; rfl, New.alloc _ _⟩

end Go.Proofs.Ytgeoffpcmkofkaa
/- The walk of plumbref's 'Of'. -/
namespace Go.Proofs.Ytgeoffpcmkofkaa
open Go.RowKit Fl Dg
set_option maxRecDepth 100000

theorem Try.info3 : (Try.prog.info? 3).map (fun i => (i.zero, i.size, i.bytes)) = some (some (.int .i64 0), 1, 8) := by kernel_rfl

/-- The digits of N so far: m is left. -/
structure OfI (N m : Int) (ds : List Int) : Prop where
  ok : Dok ds
  val : dv ds + B ^ ds.length * m = N
  top : ds.length = 0 ∨ B ^ (ds.length - 1) ≤ N
  m0 : 0 ≤ m
  len : ds.length ≤ 3

theorem OfI.start {N : Int} (h : 0 ≤ N) : OfI N N [] := ⟨Dok.nil, by simp [dv], Or.inl rfl, h, by simp⟩

theorem OfI.next {N m : Int} {ds : List Int} (h : OfI N m ds) (hm : 0 < m) (hN : N ≤ 9007199254740992) : OfI N (m / 1048576) (ds ++ [m % 1048576]) := by
  have hp := bp ds.length
  have hv := h.val
  have hd := dv_nonneg h.ok
  have h1 : B ^ ds.length * 1 ≤ B ^ ds.length * m := Int.mul_le_mul_of_nonneg_left (by omega) (by omega)
  have h2 : ds.length < 3 := bl (by
    have : B ^ 3 = 1152921504606846976 := by decide
    omega)
  refine ⟨h.ok.append (Dok.one (by omega) (by omega)), ?_, Or.inr ?_, by omega, by simp; omega⟩
  · rw [dv_append, List.length_append, List.length_singleton, bs]
    simp only [dv]
    have hsd : m = 1048576 * (m / 1048576) + m % 1048576 := by omega
    generalize m / 1048576 = q at *
    generalize m % 1048576 = r at *
    subst hsd
    rw [← hv]; grind
  · rw [List.length_append, List.length_singleton, Nat.add_sub_cancel]; omega

theorem OfI.done {N : Int} {ds : List Int} (h : OfI N 0 ds) : dv ds = N ∧ Tr ds := by
  have hv := h.val
  have hd : dv ds = N := by omega
  refine ⟨hd, tr_of h.ok fun hn => ?_⟩
  rcases h.top with h1 | h1
  · exact absurd (List.eq_nil_of_length_eq_zero h1) hn
  · rw [hd]; exact h1

/-- The memory of 'Of' in its loop: the answer's block R, behind it the variable x, its digits in a block behind that. -/
structure OfM (w wr : World) (R : Nat) (neg : Bool) (v : Value) (ds : List Int) : Prop where
  res : wr.heap[R]? = some (.cells #[.bool false, .slice none 0 0] 55 (0, 0))
  x : wr.heap[R + 1]? = some (.cells #[.bool neg, v] 55 (0, 0))
  own : wr.ownsRow (R + 2) 3 1 v ds.length (ds.map (Value.int .i64))
  below : Below R w wr

theorem pair_cell0 {w : World} {b : Nat} {x y : Value} {t : TypeId} (h : w.heap[b]? = some (.cells #[x, y] t (0, 0))) : w.cell? ⟨b, 0, none⟩ = some x := by simp [World.cell?, h]
theorem pair_cell1 {w : World} {b : Nat} {x y : Value} {t : TypeId} (h : w.heap[b]? = some (.cells #[x, y] t (0, 0))) : w.cell? ⟨b, 1, none⟩ = some y := by simp [World.cell?, h]
theorem pair_free {w : World} {b o : Nat} {x y : Value} {t : TypeId} (h : w.heap[b]? = some (.cells #[x, y] t (0, 0))) : w.frozen? ⟨b, o, none⟩ = false := by simp [World.frozen?, h]
theorem pair_set1 {w : World} {b : Nat} {x y u : Value} {t : TypeId} (h : w.heap[b]? = some (.cells #[x, y] t (0, 0))) : (w.setCell ⟨b, 1, none⟩ u).heap[b]? = some (.cells #[x, u] t (0, 0)) := by
  have hlt := lt_of_block h
  have h' : w.heap[b] = .cells #[x, y] t (0, 0) := by simpa [Array.getElem?_eq_getElem hlt] using h
  show (w.heap.modify b _)[b]? = _
  rw [Array.getElem?_eq_getElem (by simpa using hlt), Array.getElem_modify_self, h']
  rfl
theorem pair_set0 {w : World} {b : Nat} {x y u : Value} {t : TypeId} (h : w.heap[b]? = some (.cells #[x, y] t (0, 0))) : (w.setCell ⟨b, 0, none⟩ u).heap[b]? = some (.cells #[u, y] t (0, 0)) := by
  have hlt := lt_of_block h
  have h' : w.heap[b] = .cells #[x, y] t (0, 0) := by simpa [Array.getElem?_eq_getElem hlt] using h
  show (w.heap.modify b _)[b]? = _
  rw [Array.getElem?_eq_getElem (by simpa using hlt), Array.getElem_modify_self, h']
  rfl

theorem own_row {w : World} {base n : Nat} {v : Value} {xs : List Value} (h : w.ownsRow base 3 1 v n xs) {k : Nat} (hk : k < base) : some k ≠ v.ownBlock := by
  intro e
  have := h.lt k e.symm
  omega

theorem own_form {w : World} {base n : Nat} {v : Value} {xs : List Value} (h : w.ownsRow base 3 1 v n xs) (hn : 0 < n) : ∃ g cap, v = .slice (some ⟨g, 0, none⟩) n cap ∧ base ≤ g := by
  rcases h.2 with ⟨_, h2⟩ | ⟨g, cap, cur, h1, h2, _⟩
  · omega
  · exact ⟨g, cap, h1, h2⟩

theorem own_shape {w : World} {base n : Nat} {v : Value} {xs : List Value} (h : w.ownsRow base 3 1 v n xs) : ∃ ao c, v = .slice ao n c := by
  rcases h.2 with ⟨h1, h2⟩ | ⟨g, cap, cur, h1, h2, _⟩
  · subst h2; exact ⟨_, _, h1⟩
  · exact ⟨_, _, h1⟩

theorem OfM.grown {w wr w1 : World} {R : Nat} {neg : Bool} {v : Value} {ds : List Int} {o : Obj} (h : OfM w wr R neg v ds) (g : (wr.alloc o).grownBy w1 v.ownBlock) :
    w1.heap[R]? = some (.cells #[.bool false, .slice none 0 0] 55 (0, 0)) ∧ w1.heap[R + 1]? = some (.cells #[.bool neg, v] 55 (0, 0)) ∧ Below R w w1 := by
  have l1 := lt_of_block h.res
  have l2 := lt_of_block h.x
  have hs : (wr.alloc o).heap.size = wr.heap.size + 1 := by simp
  have n1 := own_row h.own (k := R) (by omega)
  have n2 := own_row h.own (k := R + 1) (by omega)
  refine ⟨?_, ?_, ?_⟩
  · rw [g.block R (by omega) n1, _root_.Go.heap_alloc_old wr o l1]; exact h.res
  · rw [g.block (R + 1) (by omega) n2, _root_.Go.heap_alloc_old wr o l2]; exact h.x
  · refine (h.below.alloc (by omega) o).grown g (by omega) (fun k hk => ?_)
    have := h.own.lt k hk
    omega

theorem OfM.next {w wr w1 : World} {R : Nat} {neg : Bool} {v v' : Value} {ds : List Int} {o : Obj} {d : Int} (h : OfM w wr R neg v ds) (g : (wr.alloc o).grownBy w1 v.ownBlock) (hown : w1.ownsRow (R + 2) 3 1 v' (ds.length + 1) (ds.map (Value.int .i64) ++ [.int .i64 d])) :
    OfM w (w1.setCell ⟨R + 1, 1, none⟩ v') R neg v' (ds ++ [d]) := by
  obtain ⟨g1, g2, g3⟩ := h.grown g
  refine ⟨?_, pair_set1 g2, ?_, g3.setCell (by simp) _⟩
  · rw [heap_setCell_other w1 ⟨R + 1, 1, none⟩ R v' (by simp)]; exact g1
  · have := ownsRow_setCell_other hown (a := ⟨R + 1, 1, none⟩) (fun e => own_row hown (k := R + 1) (by omega) e.symm) v'
    simpa using this

theorem Below.new {w w' : World} (h : Below w.heap.size w w') : New w w' := ⟨h.os, h.tape, h.output, h.size, fun k hk _ => h.block k hk⟩

theorem own_dl {w : World} {base : Nat} {v : Value} {ds : List Int} (h : w.ownsRow base 3 1 v ds.length (ds.map (Value.int .i64))) (hok : Dok ds) (hf : ds.length ≤ 1000) : Dl w v ds := by
  refine ⟨⟨h.1, ?_⟩, hok, hf⟩
  rcases h.2 with h1 | ⟨g, cap, cur, h1, _, h2⟩
  · exact Or.inl h1
  · exact Or.inr ⟨g, cap, cur, h1, Nat.zero_le _, h2⟩

/-- The end of 'Of': x is the answer. -/
theorem OfM.answer {w wr : World} {neg : Bool} {v : Value} {ds : List Int} (h : OfM w wr w.heap.size neg v ds) {N x : Int} (hI : OfI N 0 ds) (hx : x = nv neg ds) :
    NuRet w x 3 (.returned (.agg #[.bool neg, v])) ((wr.setCell ⟨w.heap.size, 0, none⟩ (.bool neg)).setCell ⟨w.heap.size, 1, none⟩ v) := by
  have hb := (h.below.setCell (p := ⟨w.heap.size, 0, none⟩) (Nat.le_refl _) (.bool neg)).setCell (p := ⟨w.heap.size, 1, none⟩) (Nat.le_refl _) v
  have o1 := ownsRow_setCell_other (ownsRow_setCell_other h.own (a := ⟨w.heap.size, 0, none⟩) (fun e => own_row h.own (k := w.heap.size) (by omega) e.symm) (.bool neg)) (a := ⟨w.heap.size, 1, none⟩) (fun e => own_row h.own (k := w.heap.size) (by omega) e.symm) v
  exact NuRet.mk ⟨⟨neg, v, ds, rfl, own_dl o1 hI.ok (by have := hI.len; omega), hI.done.2, hx, hI.len⟩⟩ (Below.new hb)

set_option maxHeartbeats 1600000 in
theorem of_pos (n : Int) (w : World) (h1 : 0 ≤ n) (h2 : n ≤ 9007199254740992) :
    Calls Try.prog 60 #[.int .i64 n] w fun e w' => NuRet w n 3 e w' := by
  obtain ⟨i0, hi, hz0, hz1, hz2⟩ := info_parts Try.info3
  have hneg : decide (n < 0) = false := decide_eq_false (by omega)
  go_enter Try.func60, Try.ntmps60
  go_wp2_with fail
  go_loopw [0] (fun i wr => ∃ (m : Int) (v : Value) (ds : List Int), i = .int .i64 m ∧ 0 ≤ m ∧ m ≤ 9007199254740992 ∧ Hid (OfI n m ds ∧ OfM w wr w.heap.size false v ds))
    (fun i _ => (intOf i).toNat)
  case atStart =>
    refine ⟨n, .slice none 0 0, [], rfl, h1, h2, OfI.start h1, ?_⟩
    refine ⟨?_, ?_, World.ownsRow_nil _ _ _ _, ((Below.refl _ _).alloc (Nat.le_refl _) _).alloc (by simp) _⟩
    · rw [_root_.Go.heap_alloc_old _ _ (by simp)]; exact _root_.Go.heap_alloc_new w _
    · have := _root_.Go.heap_alloc_new (w.alloc (.cells #[.bool false, .slice none 0 0] 55)) (.cells #[.bool false, .slice none 0 0] 55)
      simpa [hneg] using this
  case round =>
    obtain ⟨m, v, ds, rfl, hm0, hm1, H⟩ := hrel
    obtain ⟨ao, c, hv⟩ := own_shape H.out.2.own
    subst hv
    have hx0 := pair_cell0 H.out.2.x
    have hx1 := pair_cell1 H.out.2.x
    have hl3 := H.out.1.len
    by_cases hm : 0 < m
    · go_wp2_with (at_builtin; refine wpList_append_own _ rfl _ _ 46 rfl (w.heap.size + 2) 3 i0 (.int .i64 0) 1 8 Try.underlying46 hi hz0 hz1 hz2 rfl (by decide) _ _ _ rfl (H.out.2.own.alloc _) ⟨wr.heap.size, 0, none⟩ 1 1 [.int .i64 (m % 1048576)] rfl rfl (cell_one_new _ _ _) ?c2 ?c3 ?c4 ?c5 ?_)
      case c2 => intro u hu; rw [List.mem_singleton.1 hu]; rfl
      case c3 => unfold maxLen; omega
      case c4 => omega
      case c5 => have := lt_of_block H.out.2.x; simp; omega
      intro v' w1 hown1 hgrow1 hnil
      obtain ⟨g', cap', rfl, _⟩ := own_form hown1 (by omega)
      have HM : Hid (OfM w (w1.setCell ⟨w.heap.size + 1, 1, none⟩ (.slice (some ⟨g', 0, none⟩) (ds.length + 1) cap')) w.heap.size false (.slice (some ⟨g', 0, none⟩) (ds.length + 1) cap') (ds ++ [m % 1048576])) := H.out.2.next hgrow1 hown1
      have hg := H.out.2.grown hgrow1
      have hy1 := pair_cell1 hg.2.1
      have hyf := pair_free (o := 1) hg.2.1
      clear hg hown1 hgrow1 hnil hx0 hx1
      go_wp2_with fail
      go_roundw
      case rel => exact ⟨m / 1048576, _, ds ++ [m % 1048576], by go_num, by omega, by omega, H.out.1.next hm h2, HM.out⟩
      case measure => simp [intOf]; omega
    · have hz : m = 0 := by omega
      subst hz
      have hr0 := pair_cell0 H.out.2.res
      have hr1 := pair_cell1 H.out.2.res
      have hf0 := pair_free (o := 0) H.out.2.res
      have hf1 := pair_free (o := 1) H.out.2.res
      go_wp2_with fail
      refine bodyPost_ret (v := .agg #[.bool false, .slice ao ds.length c]) (by simp [results, Try.results60, go_sem, hr0, hr1]) rfl ?_
      exact H.out.2.answer H.out.1 (by rw [nv, if_neg (by simp)]; exact H.out.1.done.1.symm)

set_option maxHeartbeats 1600000 in
theorem of_neg (n : Int) (w : World) (h1 : n < 0) (h2 : -n ≤ 9007199254740992) :
    Calls Try.prog 60 #[.int .i64 n] w fun e w' => NuRet w n 3 e w' := by
  obtain ⟨i0, hi, hz0, hz1, hz2⟩ := info_parts Try.info3
  have hneg : decide (n < 0) = true := decide_eq_true h1
  go_enter Try.func60, Try.ntmps60
  go_wp2_with fail
  go_loopw [0] (fun i wr => ∃ (m : Int) (v : Value) (ds : List Int), i = .int .i64 m ∧ 0 ≤ m ∧ m ≤ 9007199254740992 ∧ Hid (OfI (-n) m ds ∧ OfM w wr w.heap.size true v ds))
    (fun i _ => (intOf i).toNat)
  case atStart =>
    refine ⟨-n, .slice none 0 0, [], rfl, by omega, h2, OfI.start (by omega), ?_⟩
    refine ⟨?_, ?_, World.ownsRow_nil _ _ _ _, ((Below.refl _ _).alloc (Nat.le_refl _) _).alloc (by simp) _⟩
    · rw [_root_.Go.heap_alloc_old _ _ (by simp)]; exact _root_.Go.heap_alloc_new w _
    · have := _root_.Go.heap_alloc_new (w.alloc (.cells #[.bool false, .slice none 0 0] 55)) (.cells #[.bool true, .slice none 0 0] 55)
      simpa [hneg] using this
  case round =>
    obtain ⟨m, v, ds, rfl, hm0, hm1, H⟩ := hrel
    obtain ⟨ao, c, hv⟩ := own_shape H.out.2.own
    subst hv
    have hx0 := pair_cell0 H.out.2.x
    have hx1 := pair_cell1 H.out.2.x
    have hl3 := H.out.1.len
    by_cases hm : 0 < m
    · go_wp2_with (at_builtin; refine wpList_append_own _ rfl _ _ 46 rfl (w.heap.size + 2) 3 i0 (.int .i64 0) 1 8 Try.underlying46 hi hz0 hz1 hz2 rfl (by decide) _ _ _ rfl (H.out.2.own.alloc _) ⟨wr.heap.size, 0, none⟩ 1 1 [.int .i64 (m % 1048576)] rfl rfl (cell_one_new _ _ _) ?c2 ?c3 ?c4 ?c5 ?_)
      case c2 => intro u hu; rw [List.mem_singleton.1 hu]; rfl
      case c3 => unfold maxLen; omega
      case c4 => omega
      case c5 => have := lt_of_block H.out.2.x; simp; omega
      intro v' w1 hown1 hgrow1 hnil
      obtain ⟨g', cap', rfl, _⟩ := own_form hown1 (by omega)
      have HM : Hid (OfM w (w1.setCell ⟨w.heap.size + 1, 1, none⟩ (.slice (some ⟨g', 0, none⟩) (ds.length + 1) cap')) w.heap.size true (.slice (some ⟨g', 0, none⟩) (ds.length + 1) cap') (ds ++ [m % 1048576])) := H.out.2.next hgrow1 hown1
      have hg := H.out.2.grown hgrow1
      have hy1 := pair_cell1 hg.2.1
      have hyf := pair_free (o := 1) hg.2.1
      clear hg hown1 hgrow1 hnil hx0 hx1
      go_wp2_with fail
      go_roundw
      case rel => exact ⟨m / 1048576, _, ds ++ [m % 1048576], by go_num, by omega, by omega, H.out.1.next hm h2, HM.out⟩
      case measure => simp [intOf]; omega
    · have hz : m = 0 := by omega
      subst hz
      have hr0 := pair_cell0 H.out.2.res
      have hr1 := pair_cell1 H.out.2.res
      have hf0 := pair_free (o := 0) H.out.2.res
      have hf1 := pair_free (o := 1) H.out.2.res
      go_wp2_with fail
      refine bodyPost_ret (v := .agg #[.bool true, .slice ao ds.length c]) (by simp [results, Try.results60, go_sem, hr0, hr1]) rfl ?_
      exact H.out.2.answer H.out.1 (by rw [nv, if_pos rfl, H.out.1.done.1]; omega)

theorem of_num (n : Int) (w : World) (h : Cd n) : Calls Try.prog 60 #[.int .i64 n] w fun e w' => NuRet w n 3 e w' := by
  by_cases h0 : 0 ≤ n
  · exact of_pos n w h0 h.2
  · exact of_neg n w (by omega) (by have := h.1; omega)

end Go.Proofs.Ytgeoffpcmkofkaa
