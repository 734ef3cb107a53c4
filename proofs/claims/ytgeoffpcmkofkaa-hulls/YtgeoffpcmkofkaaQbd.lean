/- Wm; Wn: texts laid into one. -/
import Derived.Test.YtgeoffpcmkofkaaQbc
import Derived.Test.YtgeoffpcmkofkaaQae
/- The walk of plumbref's 'Of'. -/
namespace Go.Proofs.Ytgeoffpcmkofkaa
open Go.RowKit Fl Dg
set_option maxRecDepth 100000

/-- The digits of N so far: m is left. -/
structure OfI (N m : Int) (ds : List Int) : Prop where
  ok : Dok ds
  val : dv ds + B ^ ds.length * m = N
  top : ds.length = 0 ∨ B ^ (ds.length - 1) ≤ N
  m0 : 0 ≤ m
  len : ds.length ≤ 3

theorem OfI.start {N : Int} (h : 0 ≤ N) : OfI N N [] := ⟨Dok.nil, by simp [dv], Or.inl rfl, h, by simp⟩

theorem OfI.next {N m : Int} {ds : List Int} (h : OfI N m ds) (hm : 0 < m) (hN : N ≤ 9007199254740992) : OfI N (m / 1048576) (ds ++ [m % 1048576]) := by
  have hp := bp ds.length
  have hv := h.val
  have hd := dv_nonneg h.ok
  have h1 : B ^ ds.length * 1 ≤ B ^ ds.length * m := Int.mul_le_mul_of_nonneg_left (by omega) (by omega)
  have h2 : ds.length < 3 := bl (by
    have : B ^ 3 = 1152921504606846976 := by decide
    omega)
  refine ⟨h.ok.append (Dok.one (by omega) (by omega)), ?_, Or.inr ?_, by omega, by simp; omega⟩
  · rw [dv_append, List.length_append, List.length_singleton, bs]
    simp only [dv]
    have hsd : m = 1048576 * (m / 1048576) + m % 1048576 := by omega
    generalize m / 1048576 = q at *
    generalize m % 1048576 = r at *
    subst hsd
    rw [← hv]; grind
  · rw [List.length_append, List.length_singleton, Nat.add_sub_cancel]; omega

theorem OfI.done {N : Int} {ds : List Int} (h : OfI N 0 ds) : dv ds = N ∧ Tr ds := by
  have hv := h.val
  have hd : dv ds = N := by omega
  refine ⟨hd, tr_of h.ok fun hn => ?_⟩
  rcases h.top with h1 | h1
  · exact absurd (List.eq_nil_of_length_eq_zero h1) hn
  · rw [hd]; exact h1

/-- The memory of 'Of' in its loop: the answer's block R, behind it the variable x, its digits in a block behind that. -/
structure OfM (w wr : World) (R : Nat) (neg : Bool) (v : Value) (ds : List Int) : Prop where
  res : wr.heap[R]? = some (.cells #[.bool false, .slice none 0 0] 55 (0, 0))
  x : wr.heap[R + 1]? = some (.cells #[.bool neg, v] 55 (0, 0))
  own : wr.ownsRow (R + 2) 3 1 v ds.length (ds.map (Value.int .i64))
  below : Below R w wr

theorem own_row {w : World} {base n : Nat} {v : Value} {xs : List Value} (h : w.ownsRow base 3 1 v n xs) {k : Nat} (hk : k < base) : some k ≠ v.ownBlock := by
  intro e
  have := h.lt k e.symm
  omega

theorem own_form {w : World} {base n : Nat} {v : Value} {xs : List Value} (h : w.ownsRow base 3 1 v n xs) (hn : 0 < n) : ∃ g cap, v = .slice (some ⟨g, 0, none⟩) n cap ∧ base ≤ g := by
  rcases h.2 with ⟨_, h2⟩ | ⟨g, cap, cur, h1, h2, _⟩
  · omega
  · exact ⟨g, cap, h1, h2⟩

theorem own_shape {w : World} {base n : Nat} {v : Value} {xs : List Value} (h : w.ownsRow base 3 1 v n xs) : ∃ ao c, v = .slice ao n c := by
  rcases h.2 with ⟨h1, h2⟩ | ⟨g, cap, cur, h1, h2, _⟩
  · subst h2; exact ⟨_, _, h1⟩
  · exact ⟨_, _, h1⟩

theorem OfM.grown {w wr w1 : World} {R : Nat} {neg : Bool} {v : Value} {ds : List Int} {o : Obj} (h : OfM w wr R neg v ds) (g : (wr.alloc o).grownBy w1 v.ownBlock) :
    w1.heap[R]? = some (.cells #[.bool false, .slice none 0 0] 55 (0, 0)) ∧ w1.heap[R + 1]? = some (.cells #[.bool neg, v] 55 (0, 0)) ∧ Below R w w1 := by
  have l1 := lt_of_block h.res
  have l2 := lt_of_block h.x
  have hs : (wr.alloc o).heap.size = wr.heap.size + 1 := by simp
  have n1 := own_row h.own (k := R) (by omega)
  have n2 := own_row h.own (k := R + 1) (by omega)
  refine ⟨?_, ?_, ?_⟩
  · rw [g.block R (by omega) n1, _root_.Go.heap_alloc_old wr o l1]; exact h.res
  · rw [g.block (R + 1) (by omega) n2, _root_.Go.heap_alloc_old wr o l2]; exact h.x
  · refine (h.below.alloc (by omega) o).grown g (by omega) (fun k hk => ?_)
    have := h.own.lt k hk
    omega

theorem OfM.next {w wr w1 : World} {R : Nat} {neg : Bool} {v v' : Value} {ds : List Int} {o : Obj} {d : Int} (h : OfM w wr R neg v ds) (g : (wr.alloc o).grownBy w1 v.ownBlock) (hown : w1.ownsRow (R + 2) 3 1 v' (ds.length + 1) (ds.map (Value.int .i64) ++ [.int .i64 d])) :
    OfM w (w1.setCell ⟨R + 1, 1, none⟩ v') R neg v' (ds ++ [d]) := by
  obtain ⟨g1, g2, g3⟩ := h.grown g
  refine ⟨?_, pair_set1 g2, ?_, g3.setCell (by simp) _⟩
  · rw [heap_setCell_other w1 ⟨R + 1, 1, none⟩ R v' (by simp)]; exact g1
  · have := ownsRow_setCell_other hown (a := ⟨R + 1, 1, none⟩) (fun e => own_row hown (k := R + 1) (by omega) e.symm) v'
    simpa using this

theorem Below.new {w w' : World} (h : Below w.heap.size w w') : New w w' := ⟨h.os, h.tape, h.output, h.size, fun k hk _ => h.block k hk⟩

theorem own_dl {w : World} {base : Nat} {v : Value} {ds : List Int} (h : w.ownsRow base 3 1 v ds.length (ds.map (Value.int .i64))) (hok : Dok ds) (hf : ds.length ≤ 1000) : Dl w v ds := by
  refine ⟨⟨h.1, ?_⟩, hok, hf⟩
  rcases h.2 with h1 | ⟨g, cap, cur, h1, _, h2⟩
  · exact Or.inl h1
  · exact Or.inr ⟨g, cap, cur, h1, Nat.zero_le _, h2⟩

/-- The end of 'Of': x is the answer. -/
theorem OfM.answer {w wr : World} {neg : Bool} {v : Value} {ds : List Int} (h : OfM w wr w.heap.size neg v ds) {N x : Int} (hI : OfI N 0 ds) (hx : x = nv neg ds) :
    NuRet w x 3 (.returned (.agg #[.bool neg, v])) ((wr.setCell ⟨w.heap.size, 0, none⟩ (.bool neg)).setCell ⟨w.heap.size, 1, none⟩ v) := by
  have hb := (h.below.setCell (p := ⟨w.heap.size, 0, none⟩) (Nat.le_refl _) (.bool neg)).setCell (p := ⟨w.heap.size, 1, none⟩) (Nat.le_refl _) v
  have o1 := ownsRow_setCell_other (ownsRow_setCell_other h.own (a := ⟨w.heap.size, 0, none⟩) (fun e => own_row h.own (k := w.heap.size) (by omega) e.symm) (.bool neg)) (a := ⟨w.heap.size, 1, none⟩) (fun e => own_row h.own (k := w.heap.size) (by omega) e.symm) v
  exact NuRet.mk ⟨⟨neg, v, ds, rfl, own_dl o1 hI.ok (by have := hI.len; omega), hI.done.2, hx, hI.len⟩⟩ (Below.new hb)

set_option maxHeartbeats 1600000 in
theorem of_pos (n : Int) (w : World) (h1 : 0 ≤ n) (h2 : n ≤ 9007199254740992) :
    Calls Try.prog 60 #[.int .i64 n] w fun e w' => NuRet w n 3 e w' := by
  obtain ⟨i0, hi, hz0, hz1, hz2⟩ := info_parts Try.info3
  have hneg : decide (n < 0) = false := decide_eq_false (by omega)
  go_enter Try.func60, Try.ntmps60
  go_wp2_with fail
  go_loopw [0] (fun i wr => ∃ (m : Int) (v : Value) (ds : List Int), i = .int .i64 m ∧ 0 ≤ m ∧ m ≤ 9007199254740992 ∧ Hid (OfI n m ds ∧ OfM w wr w.heap.size false v ds))
    (fun i _ => (intOf i).toNat)
  case atStart =>
    refine ⟨n, .slice none 0 0, [], rfl, h1, h2, OfI.start h1, ?_⟩
    refine ⟨?_, ?_, World.ownsRow_nil _ _ _ _, ((Below.refl _ _).alloc (Nat.le_refl _) _).alloc (by simp) _⟩
    · rw [_root_.Go.heap_alloc_old _ _ (by simp)]; exact _root_.Go.heap_alloc_new w _
    · have := _root_.Go.heap_alloc_new (w.alloc (.cells #[.bool false, .slice none 0 0] 55)) (.cells #[.bool false, .slice none 0 0] 55)
      simpa [hneg] using this
  case round =>
    obtain ⟨m, v, ds, rfl, hm0, hm1, H⟩ := hrel
    obtain ⟨ao, c, hv⟩ := own_shape H.out.2.own
    subst hv
    have hx0 := pair_cell0 H.out.2.x
    have hx1 := pair_cell1 H.out.2.x
    have hl3 := H.out.1.len
    by_cases hm : 0 < m
    · go_wp2_with (at_builtin; refine wpList_append_own _ rfl _ _ 46 rfl (w.heap.size + 2) 3 i0 (.int .i64 0) 1 8 Try.underlying46 hi hz0 hz1 hz2 rfl (by decide) _ _ _ rfl (H.out.2.own.alloc _) ⟨wr.heap.size, 0, none⟩ 1 1 [.int .i64 (m % 1048576)] rfl rfl (cell_one_new _ _ _) ?c2 ?c3 ?c4 ?c5 ?_)
      case c2 => intro u hu; rw [List.mem_singleton.1 hu]; rfl
      case c3 => unfold maxLen; omega
      case c4 => omega
      case c5 => have := lt_of_block H.out.2.x; simp; omega
      intro v' w1 hown1 hgrow1 hnil
      obtain ⟨g', cap', rfl, _⟩ := own_form hown1 (by omega)
      have HM : Hid (OfM w (w1.setCell ⟨w.heap.size + 1, 1, none⟩ (.slice (some ⟨g', 0, none⟩) (ds.length + 1) cap')) w.heap.size false (.slice (some ⟨g', 0, none⟩) (ds.length + 1) cap') (ds ++ [m % 1048576])) := H.out.2.next hgrow1 hown1
      have hg := H.out.2.grown hgrow1
      have hy1 := pair_cell1 hg.2.1
      have hyf := pair_free (o := 1) hg.2.1
      clear hg hown1 hgrow1 hnil hx0 hx1
      go_wp2_with fail
      go_roundw
      case rel => exact ⟨m / 1048576, _, ds ++ [m % 1048576], by go_num, by omega, by omega, H.out.1.next hm h2, HM.out⟩
      case measure => simp [intOf]; omega
    · have hz : m = 0 := by omega
      subst hz
      have hr0 := pair_cell0 H.out.2.res
      have hr1 := pair_cell1 H.out.2.res
      have hf0 := pair_free (o := 0) H.out.2.res
      have hf1 := pair_free (o := 1) H.out.2.res
      go_wp2_with fail
      refine bodyPost_ret (v := .agg #[.bool false, .slice ao ds.length c]) (by simp [results, Try.results60, go_sem, hr0, hr1]) rfl ?_
      exact H.out.2.answer H.out.1 (by rw [nv, if_neg (by simp)]; exact H.out.1.done.1.symm)

set_option maxHeartbeats 1600000 in
theorem of_neg (n : Int) (w : World) (h1 : n < 0) (h2 : -n ≤ 9007199254740992) :
    Calls Try.prog 60 #[.int .i64 n] w fun e w' => NuRet w n 3 e w' := by
  obtain ⟨i0, hi, hz0, hz1, hz2⟩ := info_parts Try.info3
  have hneg : decide (n < 0) = true := decide_eq_true h1
  go_enter Try.func60, Try.ntmps60
  go_wp2_with fail
  go_loopw [0] (fun i wr => ∃ (m : Int) (v : Value) (ds : List Int), i = .int .i64 m ∧ 0 ≤ m ∧ m ≤ 9007199254740992 ∧ Hid (OfI (-n) m ds ∧ OfM w wr w.heap.size true v ds))
    (fun i _ => (intOf i).toNat)
  case atStart =>
    refine ⟨-n, .slice none 0 0, [], rfl, by omega, h2, OfI.start (by omega), ?_⟩
    refine ⟨?_, ?_, World.ownsRow_nil _ _ _ _, ((Below.refl _ _).alloc (Nat.le_refl _) _).alloc (by simp) _⟩
    · rw [_root_.Go.heap_alloc_old _ _ (by simp)]; exact _root_.Go.heap_alloc_new w _
    · have := _root_.Go.heap_alloc_new (w.alloc (.cells #[.bool false, .slice none 0 0] 55)) (.cells #[.bool true, .slice none 0 0] 55)
      simpa [hneg] using this
  case round =>
    obtain ⟨m, v, ds, rfl, hm0, hm1, H⟩ := hrel
    obtain ⟨ao, c, hv⟩ := own_shape H.out.2.own
    subst hv
    have hx0 := pair_cell0 H.out.2.x
    have hx1 := pair_cell1 H.out.2.x
    have hl3 := H.out.1.len
    by_cases hm : 0 < m
    · go_wp2_with (at_builtin; refine wpList_append_own _ rfl _ _ 46 rfl (w.heap.size + 2) 3 i0 (.int .i64 0) 1 8 Try.underlying46 hi hz0 hz1 hz2 rfl (by decide) _ _ _ rfl (H.out.2.own.alloc _) ⟨wr.heap.size, 0, none⟩ 1 1 [.int .i64 (m % 1048576)] rfl rfl (cell_one_new _ _ _) ?c2 ?c3 ?c4 ?c5 ?_)
      case c2 => intro u hu; rw [List.mem_singleton.1 hu]; rfl
      case c3 => unfold maxLen; omega
      case c4 => omega
      case c5 => have := lt_of_block H.out.2.x; simp; omega
      intro v' w1 hown1 hgrow1 hnil
      obtain ⟨g', cap', rfl, _⟩ := own_form hown1 (by omega)
      have HM : Hid (OfM w (w1.setCell ⟨w.heap.size + 1, 1, none⟩ (.slice (some ⟨g', 0, none⟩) (ds.length + 1) cap')) w.heap.size true (.slice (some ⟨g', 0, none⟩) (ds.length + 1) cap') (ds ++ [m % 1048576])) := H.out.2.next hgrow1 hown1
      have hg := H.out.2.grown hgrow1
      have hy1 := pair_cell1 hg.2.1
      have hyf := pair_free (o := 1) hg.2.1
      clear hg hown1 hgrow1 hnil hx0 hx1
      go_wp2_with fail
      go_roundw
      case rel => exact ⟨m / 1048576, _, ds ++ [m % 1048576], by go_num, by omega, by omega, H.out.1.next hm h2, HM.out⟩
      case measure => simp [intOf]; omega
    · have hz : m = 0 := by omega
      subst hz
      have hr0 := pair_cell0 H.out.2.res
      have hr1 := pair_cell1 H.out.2.res
      have hf0 := pair_free (o := 0) H.out.2.res
      have hf1 := pair_free (o := 1) H.out.2.res
      go_wp2_with fail
      refine bodyPost_ret (v := .agg #[.bool true, .slice ao ds.length c]) (by simp [results, Try.results60, go_sem, hr0, hr1]) rfl ?_
      exact H.out.2.answer H.out.1 (by rw [nv, if_pos rfl, H.out.1.done.1]; omega)

theorem of_num (n : Int) (w : World) (h : Cd n) : Calls Try.prog 60 #[.int .i64 n] w fun e w' => NuRet w n 3 e w' := by
  by_cases h0 : 0 ≤ n
  · exact of_pos n w h0 h.2
  · exact of_neg n w (by omega) (by have := h.1; omega)

end Go.Proofs.Ytgeoffpcmkofkaa
/- The walk of plumbref's 'Add', signs alike. -/
namespace Go.Proofs.Ytgeoffpcmkofkaa
open Go.RowKit Fl Dg
set_option maxRecDepth 100000

/-- A digit; 0 behind the end. -/
def dg (ds : List Int) (i : Nat) : Int := ds.getD i 0
theorem dg_ok {ds : List Int} (h : Dok ds) (i : Nat) : 0 ≤ dg ds i ∧ dg ds i < 1048576 := getD_ok h i

theorem digit_same (v : Value) (ds : List Int) (i : Nat) (w : World) (h : Dl w v ds) (hi : i ≤ 1000) :
    Calls Try.prog 58 #[v, .int .i64 i] w fun e w' => e = .returned (.int .i64 (dg ds i)) ∧ w' = w := (digit_any v ds i w h hi).mono fun _ _ h => ⟨h.1, h.2.symm⟩

/-- The memory of a loop that gathers digits in a row of its own. -/
structure Gat (W wr : World) (v : Value) (ds : List Int) : Prop where
  own : wr.ownsRow W.heap.size 3 1 v ds.length (ds.map (Value.int .i64))
  new : New W wr

theorem Gat.next {W wr w1 : World} {v v' : Value} {ds : List Int} {o : Obj} {d : Int} (h : Gat W wr v ds) (g : (wr.alloc o).grownBy w1 v.ownBlock) (hown : w1.ownsRow W.heap.size 3 1 v' (ds.length + 1) (ds.map (Value.int .i64) ++ [.int .i64 d])) : Gat W w1 v' (ds ++ [d]) := by
  refine ⟨by simpa using hown, (h.new.alloc' o).trans g (fun k hk => (h.own.lt k hk).1)⟩

theorem Gat.drewN {W wr : World} {v : Value} {ds : List Int} (h : Gat W wr v ds) (n : Nat) : Gat W (wr.drewN n) v ds := ⟨h.own, h.new.drewN n⟩


/-- The answer is laid into the block R. -/
theorem Gat.answer {w W wr : World} {v : Value} {ds : List Int} (h : Gat W wr v ds) (hn : New w W) {R : Nat} (h1 : w.heap.size ≤ R) (h2 : R < W.heap.size) {neg : Bool} {x : Int} {L : Nat} (hok : Dok ds) (ht : Tr ds) (hx : x = nv neg ds) (hL : ds.length ≤ L) (hf : L ≤ 1000) :
    NuRet w x L (.returned (.agg #[.bool neg, v])) ((wr.setCell ⟨R, 0, none⟩ (.bool neg)).setCell ⟨R, 1, none⟩ v) := by
  have hnw : New w wr := hn.trans' h.new
  have hb : Below w.heap.size w wr := ⟨hnw.os, hnw.tape, hnw.output, hnw.size, fun k hk => hnw.block k hk (by simp)⟩
  have hb2 := (hb.setCell (p := ⟨R, 0, none⟩) h1 (.bool neg)).setCell (p := ⟨R, 1, none⟩) h1 v
  have o1 := ownsRow_setCell_other (ownsRow_setCell_other h.own (a := ⟨R, 0, none⟩) (fun e => own_row h.own (k := R) h2 e.symm) (.bool neg)) (a := ⟨R, 1, none⟩) (fun e => own_row h.own (k := R) h2 e.symm) v
  exact NuRet.mk ⟨⟨neg, v, ds, rfl, own_dl o1 hok (by omega), ht, hx, hL⟩⟩ (Below.new hb2)

theorem nv_add (neg : Bool) (a b d : List Int) (h : dv d = dv a + dv b) : nv neg a + nv neg b = nv neg d := by
  cases neg <;> simp only [nv, h] <;> simp <;> omega

set_option maxHeartbeats 3200000 in
theorem add_alike (neg : Bool) (ao1 ao2 : Option Addr) (c1 c2 : Nat) (a b : List Int) (L : Nat) (w : World) (ha : Dl w (.slice ao1 a.length c1) a) (hb : Dl w (.slice ao2 b.length c2) b) (ta : Tr a) (tb : Tr b) (la : a.length ≤ L) (lb : b.length ≤ L) (hL : L ≤ 900) :
    Calls Try.prog 41 #[.agg #[.bool neg, .slice ao1 a.length c1], .agg #[.bool neg, .slice ao2 b.length c2]] w fun e w' => NuRet w (nv neg a + nv neg b) (L + 1) e w' := by
  obtain ⟨i0, hi, hz0, hz1, hz2⟩ := info_parts Try.info3
  have hbb : (neg == neg) = true := by simp
  obtain ⟨W, hW⟩ : ∃ W, W = ((w.alloc (.cells #[.bool neg, .slice ao1 a.length c1] 55)).alloc (.cells #[.bool neg, .slice ao2 b.length c2] 55)).alloc (.cells #[.bool false, .slice none 0 0] 55) := ⟨_, rfl⟩
  have HW : Hid (New w W ∧ W.heap.size = w.heap.size + 3) := by rw [hW]; exact ⟨((New.alloc _ _).alloc' _).alloc' _, by simp⟩
  have ra0 : W.cell? ⟨w.heap.size, 0, none⟩ = some (.bool neg) := by rw [hW]; go_simp
  have ra1 : W.cell? ⟨w.heap.size, 1, none⟩ = some (.slice ao1 a.length c1) := by rw [hW]; go_simp
  have rb1 : W.cell? ⟨w.heap.size + 1, 1, none⟩ = some (.slice ao2 b.length c2) := by rw [hW]; go_simp
  have HWe : Hid (W = ((w.alloc (.cells #[.bool neg, .slice ao1 a.length c1] 55)).alloc (.cells #[.bool neg, .slice ao2 b.length c2] 55)).alloc (.cells #[.bool false, .slice none 0 0] 55)) := hW
  clear hW
  go_enter Try.func41, Try.ntmps41
  go_wp2_with fail
  have r0 : W.cell? ⟨w.heap.size + 1 + 1, 0, none⟩ = some (.bool false) := by rw [HWe.out]; go_simp
  have r1 : W.cell? ⟨w.heap.size + 1 + 1, 1, none⟩ = some (.slice none 0 0) := by rw [HWe.out]; go_simp
  have f0 : ∀ o, W.frozen? ⟨w.heap.size + 1 + 1, o, none⟩ = false := by intro o; rw [HWe.out]; go_simp
  have HD : Hid (Dl W (.slice ao1 a.length c1) a ∧ Dl W (.slice ao2 b.length c2) b) := ⟨ha.kept HW.out.1, hb.kept HW.out.1⟩
  go_loopw [5, 6, 7] (fun d c i wr => ∃ (k : Nat) (cv : Int) (v : Value) (ds : List Int), i = .int .i64 k ∧ c = .int .i64 cv ∧ d = v ∧ 0 ≤ cv ∧ cv ≤ 1 ∧ k ≤ L + 1 ∧ Hid (AddI a b k ds cv ∧ Gat W wr v ds))
    (fun _ _ i _ => L + 1 - (intOf i).toNat)
  case atStart =>
    refine ⟨0, 0, _, [], rfl, rfl, rfl, by omega, by omega, by omega, AddI.start a b, World.ownsRow_nil _ _ _ _, ?_⟩
    rw [← HWe.out]; exact New.refl W
  case round =>
    obtain ⟨k, cv, v, ds, rfl, rfl, rfl, hc0, hc1, hk, H⟩ := hrel
    obtain ⟨ao, c, hv⟩ := own_shape H.out.2.own
    subst hv
    have hlen : ds.length ≤ L + 1 := by have := H.out.1.len; omega
    have hsz := HW.out.2
    have qa1 : wr.cell? ⟨w.heap.size, 1, none⟩ = some (.slice ao1 a.length c1) := by rw [H.out.2.new.rule _ _ (by omega)]; exact ra1
    have qb1 : wr.cell? ⟨w.heap.size + 1, 1, none⟩ = some (.slice ao2 b.length c2) := by rw [H.out.2.new.rule _ _ (by omega)]; exact rb1
    have HDr : Hid (∀ n, Dl (wr.drewN n) (.slice ao1 a.length c1) a ∧ Dl (wr.drewN n) (.slice ao2 b.length c2) b) := fun n => ⟨HD.out.1.kept (H.out.2.new.drewN n), HD.out.2.kept (H.out.2.new.drewN n)⟩
    clear ra0 ra1 rb1 r0 r1 f0 hsz
    have HOK : Hid (Dok a ∧ Dok b) := ⟨ha.ok, hb.ok⟩
    have ba := dg_ok ha.ok k
    have bb := dg_ok hb.ok k
    have ba0 := ba.1
    have ba1 := ba.2
    have bb0 := bb.1
    have bb1 := bb.2
    clear ba bb
    by_cases g1 : k < a.length
    · have HGO : k < a.length ∨ k < b.length ∨ 0 < cv := Or.inl g1
      go_wp2_with fail
      go_quiet (first | (go_at_call 58; exact Calls.quiet_of_same (digit_same _ a k _ (HDr.out _).1 (by omega))) | (go_at_call 58; exact Calls.quiet_of_same (digit_same _ b k _ (HDr.out _).2 (by omega))))
      go_wp2_with (at_builtin; refine wpList_append_own _ rfl _ _ 46 rfl W.heap.size 3 i0 (.int .i64 0) 1 8 Try.underlying46 hi hz0 hz1 hz2 rfl (by decide) _ _ _ rfl ((H.out.2.drewN nq).own.alloc _) ⟨wr.heap.size, 0, none⟩ 1 1 [.int .i64 ((dg a k + dg b k + cv) % 1048576)] rfl rfl (cell_one_new _ _ _) ?c2 ?c3 ?c4 ?c5 ?_)
      case c2 => intro u hu; rw [List.mem_singleton.1 hu]; rfl
      case c3 => unfold maxLen; omega
      case c4 => omega
      case c5 => have := H.out.2.new.size; simp; omega
      intro v' w1 hown1 hgrow1 hnil
      have HA : Hid (AddI a b (k + 1) (ds ++ [(dg a k + dg b k + cv) % 1048576]) ((dg a k + dg b k + cv) / 1048576)) := (H.out.1.next HOK.out.1 HOK.out.2 HGO rfl).1
      have HM : Hid (Gat W w1 v' (ds ++ [(dg a k + dg b k + cv) % 1048576])) := (H.out.2.drewN nq).next hgrow1 hown1
      obtain ⟨g', cap', rfl, _⟩ := own_form hown1 (by omega)
      clear hown1 hgrow1 hnil qa1 qb1
      go_wp2_with fail
      go_roundw
      case rel => exact ⟨k + 1, _, _, _, by go_num, rfl, rfl, by omega, by omega, by have := HA.out.stop; omega, HA.out, HM.out⟩
      case measure => have := HA.out.stop; simp [intOf]; omega
    · by_cases g2 : k < b.length
      · have HGO : k < a.length ∨ k < b.length ∨ 0 < cv := Or.inr (Or.inl g2)
        go_wp2_with fail
        go_quiet (first | (go_at_call 58; exact Calls.quiet_of_same (digit_same _ a k _ (HDr.out _).1 (by omega))) | (go_at_call 58; exact Calls.quiet_of_same (digit_same _ b k _ (HDr.out _).2 (by omega))))
        go_wp2_with (at_builtin; refine wpList_append_own _ rfl _ _ 46 rfl W.heap.size 3 i0 (.int .i64 0) 1 8 Try.underlying46 hi hz0 hz1 hz2 rfl (by decide) _ _ _ rfl ((H.out.2.drewN nq).own.alloc _) ⟨wr.heap.size, 0, none⟩ 1 1 [.int .i64 ((dg a k + dg b k + cv) % 1048576)] rfl rfl (cell_one_new _ _ _) ?d2 ?d3 ?d4 ?d5 ?_)
        case d2 => intro u hu; rw [List.mem_singleton.1 hu]; rfl
        case d3 => unfold maxLen; omega
        case d4 => omega
        case d5 => have := H.out.2.new.size; simp; omega
        intro v' w1 hown1 hgrow1 hnil
        have HA : Hid (AddI a b (k + 1) (ds ++ [(dg a k + dg b k + cv) % 1048576]) ((dg a k + dg b k + cv) / 1048576)) := (H.out.1.next HOK.out.1 HOK.out.2 HGO rfl).1
        have HM : Hid (Gat W w1 v' (ds ++ [(dg a k + dg b k + cv) % 1048576])) := (H.out.2.drewN nq).next hgrow1 hown1
        obtain ⟨g', cap', rfl, _⟩ := own_form hown1 (by omega)
        clear hown1 hgrow1 hnil qa1 qb1
        go_wp2_with fail
        go_roundw
        case rel => exact ⟨k + 1, _, _, _, by go_num, rfl, rfl, by omega, by omega, by have := HA.out.stop; omega, HA.out, HM.out⟩
        case measure => have := HA.out.stop; simp [intOf]; omega
      · by_cases g3 : 0 < cv
        · have HGO : k < a.length ∨ k < b.length ∨ 0 < cv := Or.inr (Or.inr g3)
          go_wp2_with fail
          go_quiet (first | (go_at_call 58; exact Calls.quiet_of_same (digit_same _ a k _ (HDr.out _).1 (by omega))) | (go_at_call 58; exact Calls.quiet_of_same (digit_same _ b k _ (HDr.out _).2 (by omega))))
          go_wp2_with (at_builtin; refine wpList_append_own _ rfl _ _ 46 rfl W.heap.size 3 i0 (.int .i64 0) 1 8 Try.underlying46 hi hz0 hz1 hz2 rfl (by decide) _ _ _ rfl ((H.out.2.drewN nq).own.alloc _) ⟨wr.heap.size, 0, none⟩ 1 1 [.int .i64 ((dg a k + dg b k + cv) % 1048576)] rfl rfl (cell_one_new _ _ _) ?e2 ?e3 ?e4 ?e5 ?_)
          case e2 => intro u hu; rw [List.mem_singleton.1 hu]; rfl
          case e3 => unfold maxLen; omega
          case e4 => omega
          case e5 => have := H.out.2.new.size; simp; omega
          intro v' w1 hown1 hgrow1 hnil
          have HA : Hid (AddI a b (k + 1) (ds ++ [(dg a k + dg b k + cv) % 1048576]) ((dg a k + dg b k + cv) / 1048576)) := (H.out.1.next HOK.out.1 HOK.out.2 HGO rfl).1
          have HM : Hid (Gat W w1 v' (ds ++ [(dg a k + dg b k + cv) % 1048576])) := (H.out.2.drewN nq).next hgrow1 hown1
          obtain ⟨g', cap', rfl, _⟩ := own_form hown1 (by omega)
          clear hown1 hgrow1 hnil qa1 qb1
          go_wp2_with fail
          go_roundw
          case rel => exact ⟨k + 1, _, _, _, by go_num, rfl, rfl, by omega, by omega, by have := HA.out.stop; omega, HA.out, HM.out⟩
          case measure => have := HA.out.stop; simp [intOf]; omega
        · have hz : cv = 0 := by omega
          subst hz
          have hd := H.out.1.done HOK.out.1 HOK.out.2 ta tb (by omega) (by omega)
          have HE : Hid (dv ds = dv a + dv b ∧ Tr ds) := hd
          clear hd
          have hsz := HW.out.2
          have q0 : wr.cell? ⟨w.heap.size, 0, none⟩ = some (.bool neg) := by rw [H.out.2.new.rule _ _ (by omega), HWe.out]; go_simp
          have qr0 : wr.cell? ⟨w.heap.size + 1 + 1, 0, none⟩ = some (.bool false) := by rw [H.out.2.new.rule _ _ (by omega), HWe.out]; go_simp
          have qr1 : wr.cell? ⟨w.heap.size + 1 + 1, 1, none⟩ = some (.slice none 0 0) := by rw [H.out.2.new.rule _ _ (by omega), HWe.out]; go_simp
          have qf0 : wr.frozen? ⟨w.heap.size + 1 + 1, 0, none⟩ = false := by rw [H.out.2.new.frule _ _ (by omega), HWe.out]; go_simp
          have qf1 : wr.frozen? ⟨w.heap.size + 1 + 1, 1, none⟩ = false := by rw [H.out.2.new.frule _ _ (by omega), HWe.out]; go_simp
          clear hsz
          go_wp2_with fail
          refine bodyPost_ret (v := .agg #[.bool neg, .slice ao ds.length c]) (by simp [results, Try.results41, go_sem, qr0, qr1]) rfl ?_
          exact H.out.2.answer HW.out.1 (by omega) (by have := HW.out.2; omega) H.out.1.ok HE.out.2 (nv_add neg a b ds HE.out.1) hlen (by omega)

end Go.Proofs.Ytgeoffpcmkofkaa
