/- Wl; Wm; Wn: texts laid into one. -/
import Derived.Test.YtgeoffpcmkofkaaQac
/- The walks of package plumbref: 'greater', 'Minus', 'Sign'. -/
namespace Go.Proofs.Ytgeoffpcmkofkaa
open Go.RowKit Fl Dg
set_option maxRecDepth 100000

/-- Is the one number greater? -/
def gtB (a b : List Int) : Bool := decide (dv b < dv a)

/-- What is known of two lists of digits of one length. -/
structure Two (w : World) (g1 g2 n : Nat) (a b : List Int) : Prop where
  la : a.length = n
  lb : b.length = n
  oka : Dok a
  okb : Dok b
  lt1 : g1 < w.heap.size
  lt2 : g2 < w.heap.size
  k1 : ∀ i, i < n → w.cell? ⟨g1, i, none⟩ = some (.int .i64 (a.getD i 0))
  k2 : ∀ i, i < n → w.cell? ⟨g2, i, none⟩ = some (.int .i64 (b.getD i 0))

theorem Two.end1 {w : World} {g1 g2 n : Nat} {a b : List Int} (h : Two w g1 g2 n a b) {m : Nat} (hm : m < n) (he : dv (a.drop (m + 1)) = dv (b.drop (m + 1))) (hlt : b.getD m 0 < a.getD m 0) : gtB a b = true :=
  decide_eq_true (greater_at h.oka h.okb (h.la.trans h.lb.symm) (by rw [h.la]; exact hm) he hlt)
theorem Two.end2 {w : World} {g1 g2 n : Nat} {a b : List Int} (h : Two w g1 g2 n a b) {m : Nat} (hm : m < n) (he : dv (a.drop (m + 1)) = dv (b.drop (m + 1))) (hlt : a.getD m 0 < b.getD m 0) : gtB a b = false := by
  have := greater_at h.okb h.oka (h.lb.trans h.la.symm) (by rw [h.lb]; exact hm) he.symm hlt
  exact decide_eq_false (by omega)

set_option maxHeartbeats 800000 in
theorem greater_same (g1 c1 g2 c2 n : Nat) (a b : List Int) (w : World) (hT : Two w g1 g2 n a b) (hf : n ≤ 1000) (h1 : n ≤ c1) (h2 : n ≤ c2) :
    Calls Try.prog 61 #[.slice (some ⟨g1, 0, none⟩) n c1, .slice (some ⟨g2, 0, none⟩) n c2] w fun e w' => e = .returned (.bool (gtB a b)) ∧ Hid (New w w') := by
  have hne : ((n : Int) != n) = false := by simp
  go_enter Try.func61, Try.ntmps61
  go_wp2_with fail
  go_loopw [5] (fun i wr => ((∃ m : Nat, i = .int .i64 m ∧ m < n ∧ Hid (dv (a.drop (m + 1)) = dv (b.drop (m + 1)))) ∨ (i = .int .i64 (-1) ∧ Hid (dv a = dv b))) ∧ Hid (New w wr))
    (fun i _ => (intOf i + 1).toNat)
  case atStart =>
    refine ⟨?_, New.refl _⟩
    by_cases h0 : n = 0
    · right
      subst h0
      have ea := List.eq_nil_of_length_eq_zero hT.la
      have eb := List.eq_nil_of_length_eq_zero hT.lb
      exact ⟨rfl, by rw [Hid, ea, eb]⟩
    · left
      refine ⟨n - 1, by have e : ((n - 1 : Nat) : Int) = (n : Int) - 1 := by omega
                        rw [e], by omega, ?_⟩
      rw [Hid, show n - 1 + 1 = n by omega, List.drop_eq_nil_of_le (by rw [hT.la]; exact Nat.le_refl _), List.drop_eq_nil_of_le (by rw [hT.lb]; exact Nat.le_refl _)]
  case round =>
    obtain ⟨hrel, HN⟩ := hrel
    rcases hrel with ⟨m, rfl, hm, H⟩ | ⟨rfl, H⟩
    · have c1' : wr.cell? ⟨g1, m, none⟩ = some (.int .i64 (a.getD m 0)) := by rw [HN.out.rule g1 m hT.lt1]; exact hT.k1 m hm
      have c2' : wr.cell? ⟨g2, m, none⟩ = some (.int .i64 (b.getD m 0)) := by rw [HN.out.rule g2 m hT.lt2]; exact hT.k2 m hm
      obtain ⟨x, hx⟩ : ∃ x, x = a.getD m 0 := ⟨_, rfl⟩
      obtain ⟨y, hy⟩ : ∃ y, y = b.getD m 0 := ⟨_, rfl⟩
      rw [← hx] at c1'
      rw [← hy] at c2'
      have HX : Hid (x = a.getD m 0 ∧ y = b.getD m 0) := ⟨hx, hy⟩
      clear hx hy
      by_cases hxy : x = y
      · subst hxy
        have hb : (x != x) = false := by simp
        go_wp2_with fail
        go_quiet (fail)
        go_wp2_with fail
        go_roundw
        case rel =>
          refine ⟨?_, HN.out.drewN _⟩
          have hv : dv (a.drop m) = dv (b.drop m) := by rw [dv_drop a m, dv_drop b m, H.out, ← HX.out.1, ← HX.out.2]
          by_cases h0 : m = 0
          · right
            subst h0
            exact ⟨rfl, hv⟩
          · left
            refine ⟨m - 1, ?_, by omega, ?_⟩
            · have e : ((m - 1 : Nat) : Int) = (m : Int) - 1 := by omega
              rw [e]
            · rw [Hid, show m - 1 + 1 = m by omega]; exact hv
        case measure => simp [intOf]
      · have hb : (x != y) = true := by simpa using hxy
        go_wp2_with fail
        go_quiet (fail)
        go_wp2_with fail
        go_quiet (fail)
        go_wp2_with fail
        go_ret
        refine ⟨?_, (HN.out.drewN _).drewN _⟩
        rcases Int.lt_or_gt_of_ne hxy with hlt | hgt
        · rw [hT.end2 hm H.out (by rw [← HX.out.1, ← HX.out.2]; exact hlt)]
          have : decide (y < x) = false := decide_eq_false (by omega)
          rw [← this]; rfl
        · rw [hT.end1 hm H.out (by rw [← HX.out.1, ← HX.out.2]; exact hgt)]
          have : decide (y < x) = true := decide_eq_true (by omega)
          rw [← this]; rfl
    · go_wp2_with fail
      go_ret
      have e : gtB a b = false := decide_eq_false (by have := H.out; omega)
      exact ⟨by rw [e]; rfl, HN.out⟩

set_option maxHeartbeats 400000 in
theorem greater_diff (a1 a2 : Option Addr) (n1 c1 n2 c2 : Nat) (w : World) (h : n1 ≠ n2) (_h1 : n1 ≤ 1000) (_h2 : n2 ≤ 1000) :
    Calls Try.prog 61 #[.slice a1 n1 c1, .slice a2 n2 c2] w fun e w' => e = .returned (.bool (decide (n2 < n1))) ∧ Hid (New w w') := by
  have hne : ((n1 : Int) != n2) = true := by simp; omega
  have HD : Hid (decide (n2 < n1) = decide ((n2 : Int) < n1)) := by rw [Hid, decide_eq_decide]; omega
  go_enter Try.func61, Try.ntmps61
  go_wp2
  all_goals
    go_ret
    exact ⟨by rw [HD.out]; rfl, New.refl _⟩

set_option maxHeartbeats 400000 in
theorem greater_zero (a1 a2 : Option Addr) (c1 c2 : Nat) (w : World) :
    Calls Try.prog 61 #[.slice a1 0 c1, .slice a2 0 c2] w fun e w' => e = .returned (.bool false) ∧ Hid (New w w') := by
  go_enter Try.func61, Try.ntmps61
  go_wp2
  refine wp_loop_rounds 1 ?_
  rw [rounds_succ]
  go_wp2
  go_ret
  exact ⟨rfl, New.refl _⟩

theorem Dl.two {w : World} {g1 c1 g2 c2 : Nat} {a b : List Int} (ha : Dl w (.slice (some ⟨g1, 0, none⟩) a.length c1) a) (hb : Dl w (.slice (some ⟨g2, 0, none⟩) b.length c2) b) (hl : b.length = a.length) : Two w g1 g2 a.length a b := by
  have l1 := ha.own.lt g1 rfl
  have l2 := hb.own.lt g2 rfl
  refine ⟨rfl, hl, ha.ok, hb.ok, l1.2, l2.2, ?_, ?_⟩
  · intro i hi
    have := ha.own.cells (g := g1) rfl i (.int .i64 (a.getD i 0)) (by rw [List.getElem?_map, List.getD_eq_getElem?_getD, List.getElem?_eq_getElem hi]; rfl)
    rwa [Addr.add_lit, Nat.zero_add] at this
  · intro i hi
    have hi' : i < b.length := by omega
    have := hb.own.cells (g := g2) rfl i (.int .i64 (b.getD i 0)) (by rw [List.getElem?_map, List.getD_eq_getElem?_getD, List.getElem?_eq_getElem hi']; rfl)
    rwa [Addr.add_lit, Nat.zero_add] at this

theorem greater_any (v1 v2 : Value) (a b : List Int) (w : World) (ha : Dl w v1 a) (hb : Dl w v2 b) (ta : Tr a) (tb : Tr b) :
    Calls Try.prog 61 #[v1, v2] w fun e w' => e = .returned (.bool (gtB a b)) ∧ Hid (New w w') := by
  have diff : a.length ≠ b.length → decide (b.length < a.length) = gtB a b := by
    intro hne
    rcases Nat.lt_or_gt_of_ne hne with h | h
    · have := greater_len hb.ok ha.ok tb h
      rw [gtB, decide_eq_false (by omega), decide_eq_false (by omega)]
    · have := greater_len ha.ok hb.ok ta h
      rw [gtB, decide_eq_true this, decide_eq_true h]
  have zero : a = [] → b = [] → false = gtB a b := by rintro rfl rfl; rfl
  have fa := ha.few
  have fb := hb.few
  rcases ha.shape with ⟨rfl, rfl⟩ | ⟨g1, c1, rfl, hc1, _, _⟩
  · rcases hb.shape with ⟨rfl, rfl⟩ | ⟨g2, c2, rfl, hc2, _, _⟩
    · rw [← zero rfl rfl]; exact greater_zero _ _ _ _ w
    · by_cases h0 : b.length = 0
      · rw [← zero rfl (List.eq_nil_of_length_eq_zero h0), h0]; exact greater_zero _ _ _ _ w
      · rw [← diff (by simpa using Ne.symm h0)]; exact greater_diff _ _ 0 _ _ _ w (Ne.symm h0) (by omega) fb
  · rcases hb.shape with ⟨rfl, rfl⟩ | ⟨g2, c2, rfl, hc2, _, _⟩
    · by_cases h0 : a.length = 0
      · rw [← zero (List.eq_nil_of_length_eq_zero h0) rfl, h0]; exact greater_zero _ _ _ _ w
      · rw [← diff (by simpa using h0)]; exact greater_diff _ _ _ _ 0 _ w h0 fa (by omega)
    · by_cases hl : b.length = a.length
      · rw [hl] at hc2 ⊢
        exact greater_same g1 c1 g2 c2 a.length a b w (ha.two hb hl) fa hc1 hc2
      · rw [← diff (Ne.symm hl)]; exact greater_diff _ _ _ _ _ _ w (Ne.symm hl) fa fb

/-- The number that a sign and digits are. -/
def nv (neg : Bool) (ds : List Int) : Int := if neg then -dv ds else dv ds

/-- A Num in memory. -/
structure Nu (w : World) (n : Value) (x : Int) (L : Nat) : Prop where
  mk ::
  ex : ∃ (neg : Bool) (v : Value) (ds : List Int), n = .agg #[.bool neg, v] ∧ Dl w v ds ∧ Tr ds ∧ x = nv neg ds ∧ ds.length ≤ L

theorem Nu.kept {w w' : World} {n : Value} {x : Int} {L : Nat} (h : Nu w n x L) (hn : New w w') : Nu w' n x L := by
  obtain ⟨neg, v, ds, h1, h2, h3⟩ := h.ex
  exact ⟨⟨neg, v, ds, h1, h2.kept hn, h3⟩⟩

/-- A Num as an answer. -/
def NuRet (w : World) (x : Int) (L : Nat) (e : Ending) (w' : World) : Prop := ∃ n, e = .returned n ∧ Hid (Nu w' n x L ∧ New w w')
theorem NuRet.mk {w w' : World} {x : Int} {L : Nat} {n : Value} (h1 : Nu w' n x L) (h2 : New w w') : NuRet w x L (.returned n) w' := ⟨n, rfl, h1, h2⟩

theorem nv_neg (neg : Bool) (ds : List Int) : nv (!neg) ds = -nv neg ds := by cases neg <;> simp [nv]

theorem slice_val {w : World} {v : Value} {ds : List Int} (h : Dl w v ds) : ∃ ao n c, v = .slice ao n c ∧ n = ds.length := by
  rcases h.shape with ⟨rfl, rfl⟩ | ⟨g, cap, rfl, _⟩
  · exact ⟨_, _, _, rfl, rfl⟩
  · exact ⟨_, _, _, rfl, rfl⟩

set_option maxHeartbeats 400000 in
theorem minus_num (n : Value) (x : Int) (L : Nat) (w : World) (h : Nu w n x L) :
    Calls Try.prog 42 #[n] w fun e w' => NuRet w (-x) L e w' := by
  obtain ⟨neg, v, ds, rfl, h1, h2, h3, h4⟩ := h.ex
  obtain ⟨ao, m, c, rfl, hm⟩ := slice_val h1
  have H : Hid (∀ w', New w w' → NuRet w (-x) L (.returned (.agg #[.bool !neg, .slice ao m c])) w') := fun w' hn => NuRet.mk ⟨⟨!neg, _, ds, rfl, h1.kept hn, h2, by rw [h3, nv_neg], h4⟩⟩ hn
  clear h h1 h2 h3 h4 hm
  go_enter Try.func42, Try.ntmps42
  go_wp2
  exact bodyPost_ret (v := .agg #[.bool !neg, .slice ao m c]) (by simp [results, Try.results42, go_sem]) rfl (H.out _ ((New.alloc _ _).alloc' _))

set_option maxHeartbeats 400000 in
theorem sign_num (n : Value) (x : Int) (L : Nat) (w : World) (h : Nu w n x L) (hL : L ≤ 1000) :
    Calls Try.prog 40 #[n] w fun e w' => e = .returned (.int .i64 (sgn x)) ∧ Hid (New w w') := by
  obtain ⟨neg, v, ds, rfl, h1, h2, h3, h4⟩ := h.ex
  obtain ⟨ao, m, c, rfl, hm⟩ := slice_val h1
  have hz := dv_zero h1.ok h2
  have hnn := dv_nonneg h1.ok
  have hm2 : m ≤ 1000 := by omega
  by_cases h0 : m = 0
  · have hd : ds = [] := List.eq_nil_of_length_eq_zero (by omega)
    have HS : Hid (sgn x = 0) := by rw [Hid, h3, hd]; cases neg <;> rfl
    clear h h1 h2 h3 h4 hm hz hnn hd
    subst h0
    go_enter Try.func40, Try.ntmps40
    go_wp2
    go_ret
    exact ⟨by rw [HS.out]; rfl, New.alloc _ _⟩
  · have hd : dv ds ≠ 0 := fun e => by have := hz.1 e; rw [this] at hm; simp at hm; omega
    have hb : ((m : Int) == 0) = false := by rw [beq_eq_false_iff_ne]; omega
    cases neg with
    | true =>
      have HS : Hid (sgn x = -1) := by rw [Hid, h3, nv, if_pos rfl, sgn, if_pos (by omega)]
      clear h h1 h2 h3 h4 hm hz hnn hd h0
      go_enter Try.func40, Try.ntmps40
      go_wp2
      go_ret
      exact ⟨by rw [HS.out]; rfl, New.alloc _ _⟩
    | false =>
      have HS : Hid (sgn x = 1) := by rw [Hid, h3, nv, if_neg (by simp), sgn, if_neg (by omega), if_neg (by omega)]
      clear h h1 h2 h3 h4 hm hz hnn hd h0
      go_enter Try.func40, Try.ntmps40
      go_wp2
      go_ret
      exact ⟨by rw [HS.out]; rfl, New.alloc _ _⟩

end Go.Proofs.Ytgeoffpcmkofkaa
/- The walk of plumbref's 'Of'. -/
namespace Go.Proofs.Ytgeoffpcmkofkaa
open Go.RowKit Fl Dg
set_option maxRecDepth 100000

theorem Try.info3 : (Try.prog.info? 3).map (fun i => (i.zero, i.size, i.bytes)) = some (some (.int .i64 0), 1, 8) := by kernel_rfl

/-- The digits of N so far: m is left. -/
structure OfI (N m : Int) (ds : List Int) : Prop where
  ok : Dok ds
  val : dv ds + B ^ ds.length * m = N
  top : ds.length = 0 ∨ B ^ (ds.length - 1) ≤ N
  m0 : 0 ≤ m
  len : ds.length ≤ 3

theorem OfI.start {N : Int} (h : 0 ≤ N) : OfI N N [] := ⟨Dok.nil, by simp [dv], Or.inl rfl, h, by simp⟩

theorem OfI.next {N m : Int} {ds : List Int} (h : OfI N m ds) (hm : 0 < m) (hN : N ≤ 9007199254740992) : OfI N (m / 1048576) (ds ++ [m % 1048576]) := by
  have hp := bp ds.length
  have hv := h.val
  have hd := dv_nonneg h.ok
  have h1 : B ^ ds.length * 1 ≤ B ^ ds.length * m := Int.mul_le_mul_of_nonneg_left (by omega) (by omega)
  have h2 : ds.length < 3 := bl (by
    have : B ^ 3 = 1152921504606846976 := by decide
    omega)
  refine ⟨h.ok.append (Dok.one (by omega) (by omega)), ?_, Or.inr ?_, by omega, by simp; omega⟩
  · rw [dv_append, List.length_append, List.length_singleton, bs]
    simp only [dv]
    have hsd : m = 1048576 * (m / 1048576) + m % 1048576 := by omega
    generalize m / 1048576 = q at *
    generalize m % 1048576 = r at *
    subst hsd
    rw [← hv]; grind
  · rw [List.length_append, List.length_singleton, Nat.add_sub_cancel]; omega

theorem OfI.done {N : Int} {ds : List Int} (h : OfI N 0 ds) : dv ds = N ∧ Tr ds := by
  have hv := h.val
  have hd : dv ds = N := by omega
  refine ⟨hd, tr_of h.ok fun hn => ?_⟩
  rcases h.top with h1 | h1
  · exact absurd (List.eq_nil_of_length_eq_zero h1) hn
  · rw [hd]; exact h1

/-- The memory of 'Of' in its loop: the answer's block R, behind it the variable x, its digits in a block behind that. -/
structure OfM (w wr : World) (R : Nat) (neg : Bool) (v : Value) (ds : List Int) : Prop where
  res : wr.heap[R]? = some (.cells #[.bool false, .slice none 0 0] 55 (0, 0))
  x : wr.heap[R + 1]? = some (.cells #[.bool neg, v] 55 (0, 0))
  own : wr.ownsRow (R + 2) 3 1 v ds.length (ds.map (Value.int .i64))
  below : Below R w wr

theorem pair_cell0 {w : World} {b : Nat} {x y : Value} {t : TypeId} (h : w.heap[b]? = some (.cells #[x, y] t (0, 0))) : w.cell? ⟨b, 0, none⟩ = some x := by simp [World.cell?, h]
theorem pair_cell1 {w : World} {b : Nat} {x y : Value} {t : TypeId} (h : w.heap[b]? = some (.cells #[x, y] t (0, 0))) : w.cell? ⟨b, 1, none⟩ = some y := by simp [World.cell?, h]
theorem pair_free {w : World} {b o : Nat} {x y : Value} {t : TypeId} (h : w.heap[b]? = some (.cells #[x, y] t (0, 0))) : w.frozen? ⟨b, o, none⟩ = false := by simp [World.frozen?, h]
theorem pair_set1 {w : World} {b : Nat} {x y u : Value} {t : TypeId} (h : w.heap[b]? = some (.cells #[x, y] t (0, 0))) : (w.setCell ⟨b, 1, none⟩ u).heap[b]? = some (.cells #[x, u] t (0, 0)) := by
  have hlt := lt_of_block h
  have h' : w.heap[b] = .cells #[x, y] t (0, 0) := by simpa [Array.getElem?_eq_getElem hlt] using h
  show (w.heap.modify b _)[b]? = _
  rw [Array.getElem?_eq_getElem (by simpa using hlt), Array.getElem_modify_self, h']
  rfl
theorem pair_set0 {w : World} {b : Nat} {x y u : Value} {t : TypeId} (h : w.heap[b]? = some (.cells #[x, y] t (0, 0))) : (w.setCell ⟨b, 0, none⟩ u).heap[b]? = some (.cells #[u, y] t (0, 0)) := by
  have hlt := lt_of_block h
  have h' : w.heap[b] = .cells #[x, y] t (0, 0) := by simpa [Array.getElem?_eq_getElem hlt] using h
  show (w.heap.modify b _)[b]? = _
  rw [Array.getElem?_eq_getElem (by simpa using hlt), Array.getElem_modify_self, h']
  rfl

theorem own_row {w : World} {base n : Nat} {v : Value} {xs : List Value} (h : w.ownsRow base 3 1 v n xs) {k : Nat} (hk : k < base) : some k ≠ v.ownBlock := by
  intro e
  have := h.lt k e.symm
  omega

theorem own_form {w : World} {base n : Nat} {v : Value} {xs : List Value} (h : w.ownsRow base 3 1 v n xs) (hn : 0 < n) : ∃ g cap, v = .slice (some ⟨g, 0, none⟩) n cap ∧ base ≤ g := by
  rcases h.2 with ⟨_, h2⟩ | ⟨g, cap, cur, h1, h2, _⟩
  · omega
  · exact ⟨g, cap, h1, h2⟩

theorem own_shape {w : World} {base n : Nat} {v : Value} {xs : List Value} (h : w.ownsRow base 3 1 v n xs) : ∃ ao c, v = .slice ao n c := by
  rcases h.2 with ⟨h1, h2⟩ | ⟨g, cap, cur, h1, h2, _⟩
  · subst h2; exact ⟨_, _, h1⟩
  · exact ⟨_, _, h1⟩

theorem OfM.grown {w wr w1 : World} {R : Nat} {neg : Bool} {v : Value} {ds : List Int} {o : Obj} (h : OfM w wr R neg v ds) (g : (wr.alloc o).grownBy w1 v.ownBlock) :
    w1.heap[R]? = some (.cells #[.bool false, .slice none 0 0] 55 (0, 0)) ∧ w1.heap[R + 1]? = some (.cells #[.bool neg, v] 55 (0, 0)) ∧ Below R w w1 := by
  have l1 := lt_of_block h.res
  have l2 := lt_of_block h.x
  have hs : (wr.alloc o).heap.size = wr.heap.size + 1 := by simp
  have n1 := own_row h.own (k := R) (by omega)
  have n2 := own_row h.own (k := R + 1) (by omega)
  refine ⟨?_, ?_, ?_⟩
  · rw [g.block R (by omega) n1, _root_.Go.heap_alloc_old wr o l1]; exact h.res
  · rw [g.block (R + 1) (by omega) n2, _root_.Go.heap_alloc_old wr o l2]; exact h.x
  · refine (h.below.alloc (by omega) o).grown g (by omega) (fun k hk => ?_)
    have := h.own.lt k hk
    omega

theorem OfM.next {w wr w1 : World} {R : Nat} {neg : Bool} {v v' : Value} {ds : List Int} {o : Obj} {d : Int} (h : OfM w wr R neg v ds) (g : (wr.alloc o).grownBy w1 v.ownBlock) (hown : w1.ownsRow (R + 2) 3 1 v' (ds.length + 1) (ds.map (Value.int .i64) ++ [.int .i64 d])) :
    OfM w (w1.setCell ⟨R + 1, 1, none⟩ v') R neg v' (ds ++ [d]) := by
  obtain ⟨g1, g2, g3⟩ := h.grown g
  refine ⟨?_, pair_set1 g2, ?_, g3.setCell (by simp) _⟩
  · rw [heap_setCell_other w1 ⟨R + 1, 1, none⟩ R v' (by simp)]; exact g1
  · have := ownsRow_setCell_other hown (a := ⟨R + 1, 1, none⟩) (fun e => own_row hown (k := R + 1) (by omega) e.symm) v'
    simpa using this

theorem Below.new {w w' : World} (h : Below w.heap.size w w') : New w w' := ⟨h.os, h.tape, h.output, h.size, fun k hk _ => h.block k hk⟩

theorem own_dl {w : World} {base : Nat} {v : Value} {ds : List Int} (h : w.ownsRow base 3 1 v ds.length (ds.map (Value.int .i64))) (hok : Dok ds) (hf : ds.length ≤ 1000) : Dl w v ds := by
  refine ⟨⟨h.1, ?_⟩, hok, hf⟩
  rcases h.2 with h1 | ⟨g, cap, cur, h1, _, h2⟩
  · exact Or.inl h1
  · exact Or.inr ⟨g, cap, cur, h1, Nat.zero_le _, h2⟩

/-- The end of 'Of': x is the answer. -/
theorem OfM.answer {w wr : World} {neg : Bool} {v : Value} {ds : List Int} (h : OfM w wr w.heap.size neg v ds) {N x : Int} (hI : OfI N 0 ds) (hx : x = nv neg ds) :
    NuRet w x 3 (.returned (.agg #[.bool neg, v])) ((wr.setCell ⟨w.heap.size, 0, none⟩ (.bool neg)).setCell ⟨w.heap.size, 1, none⟩ v) := by
  have hb := (h.below.setCell (p := ⟨w.heap.size, 0, none⟩) (Nat.le_refl _) (.bool neg)).setCell (p := ⟨w.heap.size, 1, none⟩) (Nat.le_refl _) v
  have o1 := ownsRow_setCell_other (ownsRow_setCell_other h.own (a := ⟨w.heap.size, 0, none⟩) (fun e => own_row h.own (k := w.heap.size) (by omega) e.symm) (.bool neg)) (a := ⟨w.heap.size, 1, none⟩) (fun e => own_row h.own (k := w.heap.size) (by omega) e.symm) v
  exact NuRet.mk ⟨⟨neg, v, ds, rfl, own_dl o1 hI.ok (by have := hI.len; omega), hI.done.2, hx, hI.len⟩⟩ (Below.new hb)

set_option maxHeartbeats 1600000 in
theorem of_pos (n : Int) (w : World) (h1 : 0 ≤ n) (h2 : n ≤ 9007199254740992) :
    Calls Try.prog 60 #[.int .i64 n] w fun e w' => NuRet w n 3 e w' := by
  obtain ⟨i0, hi, hz0, hz1, hz2⟩ := info_parts Try.info3
  have hneg : decide (n < 0) = false := decide_eq_false (by omega)
  go_enter Try.func60, Try.ntmps60
  go_wp2_with fail
  go_loopw [0] (fun i wr => ∃ (m : Int) (v : Value) (ds : List Int), i = .int .i64 m ∧ 0 ≤ m ∧ m ≤ 9007199254740992 ∧ Hid (OfI n m ds ∧ OfM w wr w.heap.size false v ds))
    (fun i _ => (intOf i).toNat)
  case atStart =>
    refine ⟨n, .slice none 0 0, [], rfl, h1, h2, OfI.start h1, ?_⟩
    refine ⟨?_, ?_, World.ownsRow_nil _ _ _ _, ((Below.refl _ _).alloc (Nat.le_refl _) _).alloc (by simp) _⟩
    · rw [_root_.Go.heap_alloc_old _ _ (by simp)]; exact _root_.Go.heap_alloc_new w _
    · have := _root_.Go.heap_alloc_new (w.alloc (.cells #[.bool false, .slice none 0 0] 55)) (.cells #[.bool false, .slice none 0 0] 55)
      simpa [hneg] using this
  case round =>
    obtain ⟨m, v, ds, rfl, hm0, hm1, H⟩ := hrel
    obtain ⟨ao, c, hv⟩ := own_shape H.out.2.own
    subst hv
    have hx0 := pair_cell0 H.out.2.x
    have hx1 := pair_cell1 H.out.2.x
    have hl3 := H.out.1.len
    by_cases hm : 0 < m
    · go_wp2_with (at_builtin; refine wpList_append_own _ rfl _ _ 46 rfl (w.heap.size + 2) 3 i0 (.int .i64 0) 1 8 Try.underlying46 hi hz0 hz1 hz2 rfl (by decide) _ _ _ rfl (H.out.2.own.alloc _) ⟨wr.heap.size, 0, none⟩ 1 1 [.int .i64 (m % 1048576)] rfl rfl (cell_one_new _ _ _) ?c2 ?c3 ?c4 ?c5 ?_)
      case c2 => intro u hu; rw [List.mem_singleton.1 hu]; rfl
      case c3 => unfold maxLen; omega
      case c4 => omega
      case c5 => have := lt_of_block H.out.2.x; simp; omega
      intro v' w1 hown1 hgrow1 hnil
      obtain ⟨g', cap', rfl, _⟩ := own_form hown1 (by omega)
      have HM : Hid (OfM w (w1.setCell ⟨w.heap.size + 1, 1, none⟩ (.slice (some ⟨g', 0, none⟩) (ds.length + 1) cap')) w.heap.size false (.slice (some ⟨g', 0, none⟩) (ds.length + 1) cap') (ds ++ [m % 1048576])) := H.out.2.next hgrow1 hown1
      have hg := H.out.2.grown hgrow1
      have hy1 := pair_cell1 hg.2.1
      have hyf := pair_free (o := 1) hg.2.1
      clear hg hown1 hgrow1 hnil hx0 hx1
      go_wp2_with fail
      go_roundw
      case rel => exact ⟨m / 1048576, _, ds ++ [m % 1048576], by go_num, by omega, by omega, H.out.1.next hm h2, HM.out⟩
      case measure => simp [intOf]; omega
    · have hz : m = 0 := by omega
      subst hz
      have hr0 := pair_cell0 H.out.2.res
      have hr1 := pair_cell1 H.out.2.res
      have hf0 := pair_free (o := 0) H.out.2.res
      have hf1 := pair_free (o := 1) H.out.2.res
      go_wp2_with fail
      refine bodyPost_ret (v := .agg #[.bool false, .slice ao ds.length c]) (by simp [results, Try.results60, go_sem, hr0, hr1]) rfl ?_
      exact H.out.2.answer H.out.1 (by rw [nv, if_neg (by simp)]; exact H.out.1.done.1.symm)

set_option maxHeartbeats 1600000 in
theorem of_neg (n : Int) (w : World) (h1 : n < 0) (h2 : -n ≤ 9007199254740992) :
    Calls Try.prog 60 #[.int .i64 n] w fun e w' => NuRet w n 3 e w' := by
  obtain ⟨i0, hi, hz0, hz1, hz2⟩ := info_parts Try.info3
  have hneg : decide (n < 0) = true := decide_eq_true h1
  go_enter Try.func60, Try.ntmps60
  go_wp2_with fail
  go_loopw [0] (fun i wr => ∃ (m : Int) (v : Value) (ds : List Int), i = .int .i64 m ∧ 0 ≤ m ∧ m ≤ 9007199254740992 ∧ Hid (OfI (-n) m ds ∧ OfM w wr w.heap.size true v ds))
    (fun i _ => (intOf i).toNat)
  case atStart =>
    refine ⟨-n, .slice none 0 0, [], rfl, by omega, h2, OfI.start (by omega), ?_⟩
    refine ⟨?_, ?_, World.ownsRow_nil _ _ _ _, ((Below.refl _ _).alloc (Nat.le_refl _) _).alloc (by simp) _⟩
    · rw [_root_.Go.heap_alloc_old _ _ (by simp)]; exact _root_.Go.heap_alloc_new w _
    · have := _root_.Go.heap_alloc_new (w.alloc (.cells #[.bool false, .slice none 0 0] 55)) (.cells #[.bool true, .slice none 0 0] 55)
      simpa [hneg] using this
  case round =>
    obtain ⟨m, v, ds, rfl, hm0, hm1, H⟩ := hrel
    obtain ⟨ao, c, hv⟩ := own_shape H.out.2.own
    subst hv
    have hx0 := pair_cell0 H.out.2.x
    have hx1 := pair_cell1 H.out.2.x
    have hl3 := H.out.1.len
    by_cases hm : 0 < m
    · go_wp2_with (at_builtin; refine wpList_append_own _ rfl _ _ 46 rfl (w.heap.size + 2) 3 i0 (.int .i64 0) 1 8 Try.underlying46 hi hz0 hz1 hz2 rfl (by decide) _ _ _ rfl (H.out.2.own.alloc _) ⟨wr.heap.size, 0, none⟩ 1 1 [.int .i64 (m % 1048576)] rfl rfl (cell_one_new _ _ _) ?c2 ?c3 ?c4 ?c5 ?_)
      case c2 => intro u hu; rw [List.mem_singleton.1 hu]; rfl
      case c3 => unfold maxLen; omega
      case c4 => omega
      case c5 => have := lt_of_block H.out.2.x; simp; omega
      intro v' w1 hown1 hgrow1 hnil
      obtain ⟨g', cap', rfl, _⟩ := own_form hown1 (by omega)
      have HM : Hid (OfM w (w1.setCell ⟨w.heap.size + 1, 1, none⟩ (.slice (some ⟨g', 0, none⟩) (ds.length + 1) cap')) w.heap.size true (.slice (some ⟨g', 0, none⟩) (ds.length + 1) cap') (ds ++ [m % 1048576])) := H.out.2.next hgrow1 hown1
      have hg := H.out.2.grown hgrow1
      have hy1 := pair_cell1 hg.2.1
      have hyf := pair_free (o := 1) hg.2.1
      clear hg hown1 hgrow1 hnil hx0 hx1
      go_wp2_with fail
      go_roundw
      case rel => exact ⟨m / 1048576, _, ds ++ [m % 1048576], by go_num, by omega, by omega, H.out.1.next hm h2, HM.out⟩
      case measure => simp [intOf]; omega
    · have hz : m = 0 := by omega
      subst hz
      have hr0 := pair_cell0 H.out.2.res
      have hr1 := pair_cell1 H.out.2.res
      have hf0 := pair_free (o := 0) H.out.2.res
      have hf1 := pair_free (o := 1) H.out.2.res
      go_wp2_with fail
      refine bodyPost_ret (v := .agg #[.bool true, .slice ao ds.length c]) (by simp [results, Try.results60, go_sem, hr0, hr1]) rfl ?_
      exact H.out.2.answer H.out.1 (by rw [nv, if_pos rfl, H.out.1.done.1]; omega)

theorem of_num (n : Int) (w : World) (h : Cd n) : Calls Try.prog 60 #[.int .i64 n] w fun e w' => NuRet w n 3 e w' := by
  by_cases h0 : 0 ≤ n
  · exact of_pos n w h0 h.2
  · exact of_neg n w (by omega) (by have := h.1; omega)

end Go.Proofs.Ytgeoffpcmkofkaa
/- The walk of plumbref's 'Add', signs alike. -/
namespace Go.Proofs.Ytgeoffpcmkofkaa
open Go.RowKit Fl Dg
set_option maxRecDepth 100000

/-- A digit; 0 behind the end. -/
def dg (ds : List Int) (i : Nat) : Int := ds.getD i 0
theorem dg_ok {ds : List Int} (h : Dok ds) (i : Nat) : 0 ≤ dg ds i ∧ dg ds i < 1048576 := getD_ok h i

theorem digit_same (v : Value) (ds : List Int) (i : Nat) (w : World) (h : Dl w v ds) (hi : i ≤ 1000) :
    Calls Try.prog 58 #[v, .int .i64 i] w fun e w' => e = .returned (.int .i64 (dg ds i)) ∧ w' = w := (digit_any v ds i w h hi).mono fun _ _ h => ⟨h.1, h.2.symm⟩

/-- The memory of a loop that gathers digits in a row of its own. -/
structure Gat (W wr : World) (v : Value) (ds : List Int) : Prop where
  own : wr.ownsRow W.heap.size 3 1 v ds.length (ds.map (Value.int .i64))
  new : New W wr

theorem Gat.next {W wr w1 : World} {v v' : Value} {ds : List Int} {o : Obj} {d : Int} (h : Gat W wr v ds) (g : (wr.alloc o).grownBy w1 v.ownBlock) (hown : w1.ownsRow W.heap.size 3 1 v' (ds.length + 1) (ds.map (Value.int .i64) ++ [.int .i64 d])) : Gat W w1 v' (ds ++ [d]) := by
  refine ⟨by simpa using hown, (h.new.alloc' o).trans g (fun k hk => (h.own.lt k hk).1)⟩

theorem Gat.drewN {W wr : World} {v : Value} {ds : List Int} (h : Gat W wr v ds) (n : Nat) : Gat W (wr.drewN n) v ds := ⟨h.own, h.new.drewN n⟩

theorem New.frule {W w1 : World} (h : New W w1) : ∀ b o, b < W.heap.size → w1.frozen? ⟨b, o, none⟩ = W.frozen? ⟨b, o, none⟩ :=
  fun b o hb => World.frozen?_of_block (a := ⟨b, o, none⟩) (h.block b hb (by simp))

/-- The answer is laid into the block R. -/
theorem Gat.answer {w W wr : World} {v : Value} {ds : List Int} (h : Gat W wr v ds) (hn : New w W) {R : Nat} (h1 : w.heap.size ≤ R) (h2 : R < W.heap.size) {neg : Bool} {x : Int} {L : Nat} (hok : Dok ds) (ht : Tr ds) (hx : x = nv neg ds) (hL : ds.length ≤ L) (hf : L ≤ 1000) :
    NuRet w x L (.returned (.agg #[.bool neg, v])) ((wr.setCell ⟨R, 0, none⟩ (.bool neg)).setCell ⟨R, 1, none⟩ v) := by
  have hnw : New w wr := hn.trans' h.new
  have hb : Below w.heap.size w wr := ⟨hnw.os, hnw.tape, hnw.output, hnw.size, fun k hk => hnw.block k hk (by simp)⟩
  have hb2 := (hb.setCell (p := ⟨R, 0, none⟩) h1 (.bool neg)).setCell (p := ⟨R, 1, none⟩) h1 v
  have o1 := ownsRow_setCell_other (ownsRow_setCell_other h.own (a := ⟨R, 0, none⟩) (fun e => own_row h.own (k := R) h2 e.symm) (.bool neg)) (a := ⟨R, 1, none⟩) (fun e => own_row h.own (k := R) h2 e.symm) v
  exact NuRet.mk ⟨⟨neg, v, ds, rfl, own_dl o1 hok (by omega), ht, hx, hL⟩⟩ (Below.new hb2)

theorem nv_add (neg : Bool) (a b d : List Int) (h : dv d = dv a + dv b) : nv neg a + nv neg b = nv neg d := by
  cases neg <;> simp only [nv, h] <;> simp <;> omega

set_option maxHeartbeats 3200000 in
theorem add_alike (neg : Bool) (ao1 ao2 : Option Addr) (c1 c2 : Nat) (a b : List Int) (L : Nat) (w : World) (ha : Dl w (.slice ao1 a.length c1) a) (hb : Dl w (.slice ao2 b.length c2) b) (ta : Tr a) (tb : Tr b) (la : a.length ≤ L) (lb : b.length ≤ L) (hL : L ≤ 900) :
    Calls Try.prog 41 #[.agg #[.bool neg, .slice ao1 a.length c1], .agg #[.bool neg, .slice ao2 b.length c2]] w fun e w' => NuRet w (nv neg a + nv neg b) (L + 1) e w' := by
  obtain ⟨i0, hi, hz0, hz1, hz2⟩ := info_parts Try.info3
  have hbb : (neg == neg) = true := by simp
  obtain ⟨W, hW⟩ : ∃ W, W = ((w.alloc (.cells #[.bool neg, .slice ao1 a.length c1] 55)).alloc (.cells #[.bool neg, .slice ao2 b.length c2] 55)).alloc (.cells #[.bool false, .slice none 0 0] 55) := ⟨_, rfl⟩
  have HW : Hid (New w W ∧ W.heap.size = w.heap.size + 3) := by rw [hW]; exact ⟨((New.alloc _ _).alloc' _).alloc' _, by simp⟩
  have ra0 : W.cell? ⟨w.heap.size, 0, none⟩ = some (.bool neg) := by rw [hW]; go_simp
  have ra1 : W.cell? ⟨w.heap.size, 1, none⟩ = some (.slice ao1 a.length c1) := by rw [hW]; go_simp
  have rb1 : W.cell? ⟨w.heap.size + 1, 1, none⟩ = some (.slice ao2 b.length c2) := by rw [hW]; go_simp
  have HWe : Hid (W = ((w.alloc (.cells #[.bool neg, .slice ao1 a.length c1] 55)).alloc (.cells #[.bool neg, .slice ao2 b.length c2] 55)).alloc (.cells #[.bool false, .slice none 0 0] 55)) := hW
  clear hW
  go_enter Try.func41, Try.ntmps41
  go_wp2_with fail
  have r0 : W.cell? ⟨w.heap.size + 1 + 1, 0, none⟩ = some (.bool false) := by rw [HWe.out]; go_simp
  have r1 : W.cell? ⟨w.heap.size + 1 + 1, 1, none⟩ = some (.slice none 0 0) := by rw [HWe.out]; go_simp
  have f0 : ∀ o, W.frozen? ⟨w.heap.size + 1 + 1, o, none⟩ = false := by intro o; rw [HWe.out]; go_simp
  have HD : Hid (Dl W (.slice ao1 a.length c1) a ∧ Dl W (.slice ao2 b.length c2) b) := ⟨ha.kept HW.out.1, hb.kept HW.out.1⟩
  go_loopw [5, 6, 7] (fun d c i wr => ∃ (k : Nat) (cv : Int) (v : Value) (ds : List Int), i = .int .i64 k ∧ c = .int .i64 cv ∧ d = v ∧ 0 ≤ cv ∧ cv ≤ 1 ∧ k ≤ L + 1 ∧ Hid (AddI a b k ds cv ∧ Gat W wr v ds))
    (fun _ _ i _ => L + 1 - (intOf i).toNat)
  case atStart =>
    refine ⟨0, 0, _, [], rfl, rfl, rfl, by omega, by omega, by omega, AddI.start a b, World.ownsRow_nil _ _ _ _, ?_⟩
    rw [← HWe.out]; exact New.refl W
  case round =>
    obtain ⟨k, cv, v, ds, rfl, rfl, rfl, hc0, hc1, hk, H⟩ := hrel
    obtain ⟨ao, c, hv⟩ := own_shape H.out.2.own
    subst hv
    have hlen : ds.length ≤ L + 1 := by have := H.out.1.len; omega
    have hsz := HW.out.2
    have qa1 : wr.cell? ⟨w.heap.size, 1, none⟩ = some (.slice ao1 a.length c1) := by rw [H.out.2.new.rule _ _ (by omega)]; exact ra1
    have qb1 : wr.cell? ⟨w.heap.size + 1, 1, none⟩ = some (.slice ao2 b.length c2) := by rw [H.out.2.new.rule _ _ (by omega)]; exact rb1
    have HDr : Hid (∀ n, Dl (wr.drewN n) (.slice ao1 a.length c1) a ∧ Dl (wr.drewN n) (.slice ao2 b.length c2) b) := fun n => ⟨HD.out.1.kept (H.out.2.new.drewN n), HD.out.2.kept (H.out.2.new.drewN n)⟩
    clear ra0 ra1 rb1 r0 r1 f0 hsz
    have HOK : Hid (Dok a ∧ Dok b) := ⟨ha.ok, hb.ok⟩
    have ba := dg_ok ha.ok k
    have bb := dg_ok hb.ok k
    have ba0 := ba.1
    have ba1 := ba.2
    have bb0 := bb.1
    have bb1 := bb.2
    clear ba bb
    by_cases g1 : k < a.length
    · have HGO : k < a.length ∨ k < b.length ∨ 0 < cv := Or.inl g1
      go_wp2_with fail
      go_quiet (first | (go_at_call 58; exact Calls.quiet_of_same (digit_same _ a k _ (HDr.out _).1 (by omega))) | (go_at_call 58; exact Calls.quiet_of_same (digit_same _ b k _ (HDr.out _).2 (by omega))))
      go_wp2_with (at_builtin; refine wpList_append_own _ rfl _ _ 46 rfl W.heap.size 3 i0 (.int .i64 0) 1 8 Try.underlying46 hi hz0 hz1 hz2 rfl (by decide) _ _ _ rfl ((H.out.2.drewN nq).own.alloc _) ⟨wr.heap.size, 0, none⟩ 1 1 [.int .i64 ((dg a k + dg b k + cv) % 1048576)] rfl rfl (cell_one_new _ _ _) ?c2 ?c3 ?c4 ?c5 ?_)
      case c2 => intro u hu; rw [List.mem_singleton.1 hu]; rfl
      case c3 => unfold maxLen; omega
      case c4 => omega
      case c5 => have := H.out.2.new.size; simp; omega
      intro v' w1 hown1 hgrow1 hnil
      have HA : Hid (AddI a b (k + 1) (ds ++ [(dg a k + dg b k + cv) % 1048576]) ((dg a k + dg b k + cv) / 1048576)) := (H.out.1.next HOK.out.1 HOK.out.2 HGO rfl).1
      have HM : Hid (Gat W w1 v' (ds ++ [(dg a k + dg b k + cv) % 1048576])) := (H.out.2.drewN nq).next hgrow1 hown1
      obtain ⟨g', cap', rfl, _⟩ := own_form hown1 (by omega)
      clear hown1 hgrow1 hnil qa1 qb1
      go_wp2_with fail
      go_roundw
      case rel => exact ⟨k + 1, _, _, _, by go_num, rfl, rfl, by omega, by omega, by have := HA.out.stop; omega, HA.out, HM.out⟩
      case measure => have := HA.out.stop; simp [intOf]; omega
    · by_cases g2 : k < b.length
      · have HGO : k < a.length ∨ k < b.length ∨ 0 < cv := Or.inr (Or.inl g2)
        go_wp2_with fail
        go_quiet (first | (go_at_call 58; exact Calls.quiet_of_same (digit_same _ a k _ (HDr.out _).1 (by omega))) | (go_at_call 58; exact Calls.quiet_of_same (digit_same _ b k _ (HDr.out _).2 (by omega))))
        go_wp2_with (at_builtin; refine wpList_append_own _ rfl _ _ 46 rfl W.heap.size 3 i0 (.int .i64 0) 1 8 Try.underlying46 hi hz0 hz1 hz2 rfl (by decide) _ _ _ rfl ((H.out.2.drewN nq).own.alloc _) ⟨wr.heap.size, 0, none⟩ 1 1 [.int .i64 ((dg a k + dg b k + cv) % 1048576)] rfl rfl (cell_one_new _ _ _) ?d2 ?d3 ?d4 ?d5 ?_)
        case d2 => intro u hu; rw [List.mem_singleton.1 hu]; rfl
        case d3 => unfold maxLen; omega
        case d4 => omega
        case d5 => have := H.out.2.new.size; simp; omega
        intro v' w1 hown1 hgrow1 hnil
        have HA : Hid (AddI a b (k + 1) (ds ++ [(dg a k + dg b k + cv) % 1048576]) ((dg a k + dg b k + cv) / 1048576)) := (H.out.1.next HOK.out.1 HOK.out.2 HGO rfl).1
        have HM : Hid (Gat W w1 v' (ds ++ [(dg a k + dg b k + cv) % 1048576])) := (H.out.2.drewN nq).next hgrow1 hown1
        obtain ⟨g', cap', rfl, _⟩ := own_form hown1 (by omega)
        clear hown1 hgrow1 hnil qa1 qb1
        go_wp2_with fail
        go_roundw
        case rel => exact ⟨k + 1, _, _, _, by go_num, rfl, rfl, by omega, by omega, by have := HA.out.stop; omega, HA.out, HM.out⟩
        case measure => have := HA.out.stop; simp [intOf]; omega
      · by_cases g3 : 0 < cv
        · have HGO : k < a.length ∨ k < b.length ∨ 0 < cv := Or.inr (Or.inr g3)
          go_wp2_with fail
          go_quiet (first | (go_at_call 58; exact Calls.quiet_of_same (digit_same _ a k _ (HDr.out _).1 (by omega))) | (go_at_call 58; exact Calls.quiet_of_same (digit_same _ b k _ (HDr.out _).2 (by omega))))
          go_wp2_with (at_builtin; refine wpList_append_own _ rfl _ _ 46 rfl W.heap.size 3 i0 (.int .i64 0) 1 8 Try.underlying46 hi hz0 hz1 hz2 rfl (by decide) _ _ _ rfl ((H.out.2.drewN nq).own.alloc _) ⟨wr.heap.size, 0, none⟩ 1 1 [.int .i64 ((dg a k + dg b k + cv) % 1048576)] rfl rfl (cell_one_new _ _ _) ?e2 ?e3 ?e4 ?e5 ?_)
          case e2 => intro u hu; rw [List.mem_singleton.1 hu]; rfl
          case e3 => unfold maxLen; omega
          case e4 => omega
          case e5 => have := H.out.2.new.size; simp; omega
          intro v' w1 hown1 hgrow1 hnil
          have HA : Hid (AddI a b (k + 1) (ds ++ [(dg a k + dg b k + cv) % 1048576]) ((dg a k + dg b k + cv) / 1048576)) := (H.out.1.next HOK.out.1 HOK.out.2 HGO rfl).1
          have HM : Hid (Gat W w1 v' (ds ++ [(dg a k + dg b k + cv) % 1048576])) := (H.out.2.drewN nq).next hgrow1 hown1
          obtain ⟨g', cap', rfl, _⟩ := own_form hown1 (by omega)
          clear hown1 hgrow1 hnil qa1 qb1
          go_wp2_with fail
          go_roundw
          case rel => exact ⟨k + 1, _, _, _, by go_num, rfl, rfl, by omega, by omega, by have := HA.out.stop; omega, HA.out, HM.out⟩
          case measure => have := HA.out.stop; simp [intOf]; omega
        · have hz : cv = 0 := by omega
          subst hz
          have hd := H.out.1.done HOK.out.1 HOK.out.2 ta tb (by omega) (by omega)
          have HE : Hid (dv ds = dv a + dv b ∧ Tr ds) := hd
          clear hd
          have hsz := HW.out.2
          have q0 : wr.cell? ⟨w.heap.size, 0, none⟩ = some (.bool neg) := by rw [H.out.2.new.rule _ _ (by omega), HWe.out]; go_simp
          have qr0 : wr.cell? ⟨w.heap.size + 1 + 1, 0, none⟩ = some (.bool false) := by rw [H.out.2.new.rule _ _ (by omega), HWe.out]; go_simp
          have qr1 : wr.cell? ⟨w.heap.size + 1 + 1, 1, none⟩ = some (.slice none 0 0) := by rw [H.out.2.new.rule _ _ (by omega), HWe.out]; go_simp
          have qf0 : wr.frozen? ⟨w.heap.size + 1 + 1, 0, none⟩ = false := by rw [H.out.2.new.frule _ _ (by omega), HWe.out]; go_simp
          have qf1 : wr.frozen? ⟨w.heap.size + 1 + 1, 1, none⟩ = false := by rw [H.out.2.new.frule _ _ (by omega), HWe.out]; go_simp
          clear hsz
          go_wp2_with fail
          refine bodyPost_ret (v := .agg #[.bool neg, .slice ao ds.length c]) (by simp [results, Try.results41, go_sem, qr0, qr1]) rfl ?_
          exact H.out.2.answer HW.out.1 (by omega) (by have := HW.out.2; omega) H.out.1.ok HE.out.2 (nv_add neg a b ds HE.out.1) hlen (by omega)

end Go.Proofs.Ytgeoffpcmkofkaa
