/- Wk; Wl: texts laid into one. -/
import Derived.Test.YtgeoffpcmkofkaaQad
import Derived.Test.YtgeoffpcmkofkaaQbb
/- The walks of package plumbref: 'digit', 'trim', 'greater'. -/
namespace Go.Proofs.Ytgeoffpcmkofkaa
open Go.RowKit Fl Dg
set_option maxRecDepth 100000

/-- A list of digits in memory. -/
structure Dl (w : World) (v : Value) (ds : List Int) : Prop where
  own : w.ownsRow 0 3 1 v ds.length (ds.map (Value.int .i64))
  ok : Dok ds
  few : ds.length ≤ 1000

theorem Dl.kept {w w' : World} {v : Value} {ds : List Int} (h : Dl w v ds) (hn : New w w') : Dl w' v ds :=
  ⟨h.own.kept hn (by cases hv : v.ownBlock <;> simp), h.ok, h.few⟩

/-- What 'trim' leaves. -/
def Trimmed (w : World) (v : Value) (ds : List Int) (e : Ending) (w' : World) : Prop := ∃ (v' : Value) (ds' : List Int), e = .returned v' ∧ w = w' ∧ Hid (Dl w v' ds' ∧ dv ds' = dv ds ∧ Tr ds' ∧ ds'.length ≤ ds.length ∧ v'.ownBlock = v.ownBlock)
theorem Trimmed.mk {w : World} {ds ds' : List Int} {v v' : Value} (h1 : Dl w v' ds') (h2 : dv ds' = dv ds) (h3 : Tr ds') (h4 : ds'.length ≤ ds.length) (h5 : v'.ownBlock = v.ownBlock) : Trimmed w v ds (.returned v') w := ⟨v', ds', rfl, rfl, h1, h2, h3, h4, h5⟩

/-- Its two shapes. -/
theorem Dl.shape {w : World} {v : Value} {ds : List Int} (h : Dl w v ds) : (v = .slice none 0 0 ∧ ds = []) ∨ ∃ g cap, v = .slice (some ⟨g, 0, none⟩) ds.length cap ∧ ds.length ≤ cap ∧ cap ≤ maxLen ∧ (∀ i (hi : i < ds.length), w.cell? ⟨g, i, none⟩ = some (.int .i64 ds[i])) := by
  rcases h.own.2 with ⟨h1, h2⟩ | ⟨g, cap, cur, h1, _, h2, h3, h4, h5, h6⟩
  · exact Or.inl ⟨h1, List.eq_nil_of_length_eq_zero h2⟩
  · refine Or.inr ⟨g, cap, h1, h3, h4, fun i hi => ?_⟩
    rw [cell_of_row w g i cur 3 (0, 0) h2]
    have : (cur.toList.take (ds.length * 1))[i]? = some (.int .i64 ds[i]) := by rw [h6]; simp [hi]
    rw [List.getElem?_take_of_lt (by omega)] at this
    simpa using this

set_option maxHeartbeats 400000 in
theorem digit_any (v : Value) (ds : List Int) (i : Nat) (w : World) (h : Dl w v ds) (_hi : i ≤ 1000) :
    Calls Try.prog 58 #[v, .int .i64 i] w fun e w' => e = .returned (.int .i64 (ds.getD i 0)) ∧ w = w' := by
  have hfew := h.few
  rcases h.shape with ⟨rfl, rfl⟩ | ⟨g, cap, rfl, hc, hm, hcell⟩
  · go_enter Try.func58, Try.ntmps58
    go_wp2
    go_ret
    exact ⟨by simp, rfl⟩
  · unfold maxLen at hm
    by_cases hlt : i < ds.length
    · have hc1 := hcell i hlt
      have HD : Hid (ds.getD i 0 = ds[i]) := by rw [Hid, List.getD_eq_getElem?_getD, List.getElem?_eq_getElem hlt]; rfl
      clear hcell
      go_enter Try.func58, Try.ntmps58
      go_wp2
      go_ret
      exact ⟨by rw [HD.out]; rfl, rfl⟩
    · have HD : Hid (ds.getD i 0 = 0) := by rw [Hid, List.getD_eq_getElem?_getD, List.getElem?_eq_none (by omega)]; rfl
      clear hcell
      go_enter Try.func58, Try.ntmps58
      go_wp2
      go_ret
      exact ⟨by rw [HD.out]; rfl, rfl⟩

theorem Dl.take {w : World} {g cap : Nat} {ds : List Int} (h : Dl w (.slice (some ⟨g, 0, none⟩) ds.length cap) ds) {n : Nat} (hn : n ≤ ds.length) : Dl w (.slice (some ⟨g, 0, none⟩) n cap) (ds.take n) := by
  have hl : (ds.take n).length = n := by rw [List.length_take, Nat.min_eq_left hn]
  refine ⟨?_, h.ok.take n, by have := h.few; omega⟩
  rw [hl]
  refine ⟨by rw [List.length_map, hl, Nat.mul_one], ?_⟩
  rcases h.own.2 with ⟨h1, h2⟩ | ⟨g', cap', cur, h1, h0, h2, h3, h4, h5, h6⟩
  · cases h1
  · cases h1
    refine Or.inr ⟨g, cap, cur, rfl, h0, h2, by omega, h4, h5, ?_⟩
    have := congrArg (List.take n) h6
    rw [List.take_take, Nat.mul_one, Nat.min_eq_left hn] at this
    rw [Nat.mul_one, this, List.map_take]

theorem Dl.nil (w : World) : Dl w (.slice none 0 0) [] := ⟨World.ownsRow_nil w 0 3 1, Dok.nil, by simp⟩

set_option maxHeartbeats 800000 in
theorem trim_any (v : Value) (ds : List Int) (w : World) (h : Dl w v ds) :
    Calls Try.prog 59 #[v] w fun e w' => Trimmed w v ds e w' := by
  have hfew := h.few
  have HH : Hid (Dl w v ds) := h
  rcases h.shape with ⟨rfl, rfl⟩ | ⟨g, cap, rfl, hc, hm, hcell⟩
  · clear h
    go_enter Try.func59, Try.ntmps59
    go_wp2
    refine wp_loop_rounds 1 ?_
    rw [rounds_succ]
    go_wp2
    go_ret
    exact Trimmed.mk (Dl.nil w) rfl (fun h => absurd rfl h) (by simp) rfl
  · unfold maxLen at hm
    clear h
    go_enter Try.func59, Try.ntmps59
    go_wp2_with fail
    go_loop [3] (fun i => ∃ n : Nat, i = .int .i64 n ∧ n ≤ ds.length ∧ Hid (dv (ds.take n) = dv ds))
      (fun i => (intOf i).toNat)
    case atStart => exact ⟨ds.length, rfl, Nat.le_refl _, by rw [Hid, List.take_length]⟩
    case round =>
      obtain ⟨n, rfl, hn, H⟩ := hrel
      by_cases h0 : n = 0
      · subst h0
        clear hcell
        go_wp2_with fail
        go_ret
        exact Trimmed.mk (HH.out.take (Nat.zero_le _)) H.out (trim_tr (Nat.zero_le _) (Or.inl rfl)) (by simp) rfl
      · obtain ⟨m, rfl⟩ : ∃ m, n = m + 1 := ⟨n - 1, by omega⟩
        have hc1 := hcell m (by omega)
        have HG : Hid (ds.getD m 0 = ds[m]'(by omega)) := by rw [Hid, List.getD_eq_getElem?_getD, List.getElem?_eq_getElem (by omega)]; rfl
        clear hcell h0
        by_cases hz : ds[m]'(by omega) = 0
        · rw [hz] at hc1
          have HZ : Hid (ds[m]'(by omega) = 0) := hz
          clear hz
          go_wp2_with fail
          go_round
          case rel => exact ⟨m, by go_num, by omega, trim_step hn (HG.out.trans HZ.out) H.out⟩
          case measure => simp [intOf]
        · have hzb : (ds[m]'(by omega) == 0) = false := by simpa using hz
          have HZ : Hid (ds[m]'(by omega) ≠ 0) := hz
          clear hz
          go_wp2_with fail
          go_ret
          exact Trimmed.mk (HH.out.take hn) H.out (trim_tr hn (Or.inr (by rw [Nat.add_sub_cancel, HG.out]; exact HZ.out))) (by simp; omega) rfl

end Go.Proofs.Ytgeoffpcmkofkaa
/- The walks of package plumbref: 'greater', 'Minus', 'Sign'. -/
namespace Go.Proofs.Ytgeoffpcmkofkaa
open Go.RowKit Fl Dg
set_option maxRecDepth 100000

/-- Is the one number greater? -/
def gtB (a b : List Int) : Bool := decide (dv b < dv a)

/-- What is known of two lists of digits of one length. -/
structure Two (w : World) (g1 g2 n : Nat) (a b : List Int) : Prop where
  la : a.length = n
  lb : b.length = n
  oka : Dok a
  okb : Dok b
  lt1 : g1 < w.heap.size
  lt2 : g2 < w.heap.size
  k1 : ∀ i, i < n → w.cell? ⟨g1, i, none⟩ = some (.int .i64 (a.getD i 0))
  k2 : ∀ i, i < n → w.cell? ⟨g2, i, none⟩ = some (.int .i64 (b.getD i 0))

theorem Two.end1 {w : World} {g1 g2 n : Nat} {a b : List Int} (h : Two w g1 g2 n a b) {m : Nat} (hm : m < n) (he : dv (a.drop (m + 1)) = dv (b.drop (m + 1))) (hlt : b.getD m 0 < a.getD m 0) : gtB a b = true :=
  decide_eq_true (greater_at h.oka h.okb (h.la.trans h.lb.symm) (by rw [h.la]; exact hm) he hlt)
theorem Two.end2 {w : World} {g1 g2 n : Nat} {a b : List Int} (h : Two w g1 g2 n a b) {m : Nat} (hm : m < n) (he : dv (a.drop (m + 1)) = dv (b.drop (m + 1))) (hlt : a.getD m 0 < b.getD m 0) : gtB a b = false := by
  have := greater_at h.okb h.oka (h.lb.trans h.la.symm) (by rw [h.lb]; exact hm) he.symm hlt
  exact decide_eq_false (by omega)

set_option maxHeartbeats 800000 in
theorem greater_same (g1 c1 g2 c2 n : Nat) (a b : List Int) (w : World) (hT : Two w g1 g2 n a b) (hf : n ≤ 1000) (h1 : n ≤ c1) (h2 : n ≤ c2) :
    Calls Try.prog 61 #[.slice (some ⟨g1, 0, none⟩) n c1, .slice (some ⟨g2, 0, none⟩) n c2] w fun e w' => e = .returned (.bool (gtB a b)) ∧ Hid (New w w') := by
  have hne : ((n : Int) != n) = false := by simp
  go_enter Try.func61, Try.ntmps61
  go_wp2_with fail
  go_loopw [5] (fun i wr => ((∃ m : Nat, i = .int .i64 m ∧ m < n ∧ Hid (dv (a.drop (m + 1)) = dv (b.drop (m + 1)))) ∨ (i = .int .i64 (-1) ∧ Hid (dv a = dv b))) ∧ Hid (New w wr))
    (fun i _ => (intOf i + 1).toNat)
  case atStart =>
    refine ⟨?_, New.refl _⟩
    by_cases h0 : n = 0
    · right
      subst h0
      have ea := List.eq_nil_of_length_eq_zero hT.la
      have eb := List.eq_nil_of_length_eq_zero hT.lb
      exact ⟨rfl, by rw [Hid, ea, eb]⟩
    · left
      refine ⟨n - 1, by have e : ((n - 1 : Nat) : Int) = (n : Int) - 1 := by omega
                        rw [e], by omega, ?_⟩
      rw [Hid, show n - 1 + 1 = n by omega, List.drop_eq_nil_of_le (by rw [hT.la]; exact Nat.le_refl _), List.drop_eq_nil_of_le (by rw [hT.lb]; exact Nat.le_refl _)]
  case round =>
    obtain ⟨hrel, HN⟩ := hrel
    rcases hrel with ⟨m, rfl, hm, H⟩ | ⟨rfl, H⟩
    · have c1' : wr.cell? ⟨g1, m, none⟩ = some (.int .i64 (a.getD m 0)) := by rw [HN.out.rule g1 m hT.lt1]; exact hT.k1 m hm
      have c2' : wr.cell? ⟨g2, m, none⟩ = some (.int .i64 (b.getD m 0)) := by rw [HN.out.rule g2 m hT.lt2]; exact hT.k2 m hm
      obtain ⟨x, hx⟩ : ∃ x, x = a.getD m 0 := ⟨_, rfl⟩
      obtain ⟨y, hy⟩ : ∃ y, y = b.getD m 0 := ⟨_, rfl⟩
      rw [← hx] at c1'
      rw [← hy] at c2'
      have HX : Hid (x = a.getD m 0 ∧ y = b.getD m 0) := ⟨hx, hy⟩
      clear hx hy
      by_cases hxy : x = y
      · subst hxy
        have hb : (x != x) = false := by simp
        go_wp2_with fail
        go_quiet (fail)
        go_wp2_with fail
        go_roundw
        case rel =>
          refine ⟨?_, HN.out.drewN _⟩
          have hv : dv (a.drop m) = dv (b.drop m) := by rw [dv_drop a m, dv_drop b m, H.out, ← HX.out.1, ← HX.out.2]
          by_cases h0 : m = 0
          · right
            subst h0
            exact ⟨rfl, hv⟩
          · left
            refine ⟨m - 1, ?_, by omega, ?_⟩
            · have e : ((m - 1 : Nat) : Int) = (m : Int) - 1 := by omega
              rw [e]
            · rw [Hid, show m - 1 + 1 = m by omega]; exact hv
        case measure => simp [intOf]
      · have hb : (x != y) = true := by simpa using hxy
        go_wp2_with fail
        go_quiet (fail)
        go_wp2_with fail
        go_quiet (fail)
        go_wp2_with fail
        go_ret
        refine ⟨?_, (HN.out.drewN _).drewN _⟩
        rcases Int.lt_or_gt_of_ne hxy with hlt | hgt
        · rw [hT.end2 hm H.out (by rw [← HX.out.1, ← HX.out.2]; exact hlt)]
          have : decide (y < x) = false := decide_eq_false (by omega)
          rw [← this]; rfl
        · rw [hT.end1 hm H.out (by rw [← HX.out.1, ← HX.out.2]; exact hgt)]
          have : decide (y < x) = true := decide_eq_true (by omega)
          rw [← this]; rfl
    · go_wp2_with fail
      go_ret
      have e : gtB a b = false := decide_eq_false (by have := H.out; omega)
      exact ⟨by rw [e]; rfl, HN.out⟩

set_option maxHeartbeats 400000 in
theorem greater_diff (a1 a2 : Option Addr) (n1 c1 n2 c2 : Nat) (w : World) (h : n1 ≠ n2) (_h1 : n1 ≤ 1000) (_h2 : n2 ≤ 1000) :
    Calls Try.prog 61 #[.slice a1 n1 c1, .slice a2 n2 c2] w fun e w' => e = .returned (.bool (decide (n2 < n1))) ∧ Hid (New w w') := by
  have hne : ((n1 : Int) != n2) = true := by simp; omega
  have HD : Hid (decide (n2 < n1) = decide ((n2 : Int) < n1)) := by rw [Hid, decide_eq_decide]; omega
  go_enter Try.func61, Try.ntmps61
  go_wp2
  all_goals
    go_ret
    exact ⟨by rw [HD.out]; rfl, New.refl _⟩

set_option maxHeartbeats 400000 in
theorem greater_zero (a1 a2 : Option Addr) (c1 c2 : Nat) (w : World) :
    Calls Try.prog 61 #[.slice a1 0 c1, .slice a2 0 c2] w fun e w' => e = .returned (.bool false) ∧ Hid (New w w') := by
  go_enter Try.func61, Try.ntmps61
  go_wp2
  refine wp_loop_rounds 1 ?_
  rw [rounds_succ]
  go_wp2
  go_ret
  exact ⟨rfl, New.refl _⟩

theorem Dl.two {w : World} {g1 c1 g2 c2 : Nat} {a b : List Int} (ha : Dl w (.slice (some ⟨g1, 0, none⟩) a.length c1) a) (hb : Dl w (.slice (some ⟨g2, 0, none⟩) b.length c2) b) (hl : b.length = a.length) : Two w g1 g2 a.length a b := by
  have l1 := ha.own.lt g1 rfl
  have l2 := hb.own.lt g2 rfl
  refine ⟨rfl, hl, ha.ok, hb.ok, l1.2, l2.2, ?_, ?_⟩
  · intro i hi
    have := ha.own.cells (g := g1) rfl i (.int .i64 (a.getD i 0)) (by rw [List.getElem?_map, List.getD_eq_getElem?_getD, List.getElem?_eq_getElem hi]; rfl)
    rwa [Addr.add_lit, Nat.zero_add] at this
  · intro i hi
    have hi' : i < b.length := by omega
    have := hb.own.cells (g := g2) rfl i (.int .i64 (b.getD i 0)) (by rw [List.getElem?_map, List.getD_eq_getElem?_getD, List.getElem?_eq_getElem hi']; rfl)
    rwa [Addr.add_lit, Nat.zero_add] at this

theorem greater_any (v1 v2 : Value) (a b : List Int) (w : World) (ha : Dl w v1 a) (hb : Dl w v2 b) (ta : Tr a) (tb : Tr b) :
    Calls Try.prog 61 #[v1, v2] w fun e w' => e = .returned (.bool (gtB a b)) ∧ Hid (New w w') := by
  have diff : a.length ≠ b.length → decide (b.length < a.length) = gtB a b := by
    intro hne
    rcases Nat.lt_or_gt_of_ne hne with h | h
    · have := greater_len hb.ok ha.ok tb h
      rw [gtB, decide_eq_false (by omega), decide_eq_false (by omega)]
    · have := greater_len ha.ok hb.ok ta h
      rw [gtB, decide_eq_true this, decide_eq_true h]
  have zero : a = [] → b = [] → false = gtB a b := by rintro rfl rfl; rfl
  have fa := ha.few
  have fb := hb.few
  rcases ha.shape with ⟨rfl, rfl⟩ | ⟨g1, c1, rfl, hc1, _, _⟩
  · rcases hb.shape with ⟨rfl, rfl⟩ | ⟨g2, c2, rfl, hc2, _, _⟩
    · rw [← zero rfl rfl]; exact greater_zero _ _ _ _ w
    · by_cases h0 : b.length = 0
      · rw [← zero rfl (List.eq_nil_of_length_eq_zero h0), h0]; exact greater_zero _ _ _ _ w
      · rw [← diff (by simpa using Ne.symm h0)]; exact greater_diff _ _ 0 _ _ _ w (Ne.symm h0) (by omega) fb
  · rcases hb.shape with ⟨rfl, rfl⟩ | ⟨g2, c2, rfl, hc2, _, _⟩
    · by_cases h0 : a.length = 0
      · rw [← zero (List.eq_nil_of_length_eq_zero h0) rfl, h0]; exact greater_zero _ _ _ _ w
      · rw [← diff (by simpa using h0)]; exact greater_diff _ _ _ _ 0 _ w h0 fa (by omega)
    · by_cases hl : b.length = a.length
      · rw [hl] at hc2 ⊢
        exact greater_same g1 c1 g2 c2 a.length a b w (ha.two hb hl) fa hc1 hc2
      · rw [← diff (Ne.symm hl)]; exact greater_diff _ _ _ _ _ _ w (Ne.symm hl) fa fb

/-- The number that a sign and digits are. -/
def nv (neg : Bool) (ds : List Int) : Int := if neg then -dv ds else dv ds

/-- A Num in memory. -/
structure Nu (w : World) (n : Value) (x : Int) (L : Nat) : Prop where
  mk ::
  ex : ∃ (neg : Bool) (v : Value) (ds : List Int), n = .agg #[.bool neg, v] ∧ Dl w v ds ∧ Tr ds ∧ x = nv neg ds ∧ ds.length ≤ L

theorem Nu.kept {w w' : World} {n : Value} {x : Int} {L : Nat} (h : Nu w n x L) (hn : New w w') : Nu w' n x L := by
  obtain ⟨neg, v, ds, h1, h2, h3⟩ := h.ex
  exact ⟨⟨neg, v, ds, h1, h2.kept hn, h3⟩⟩

/-- A Num as an answer. -/
def NuRet (w : World) (x : Int) (L : Nat) (e : Ending) (w' : World) : Prop := ∃ n, e = .returned n ∧ Hid (Nu w' n x L ∧ New w w')
theorem NuRet.mk {w w' : World} {x : Int} {L : Nat} {n : Value} (h1 : Nu w' n x L) (h2 : New w w') : NuRet w x L (.returned n) w' := ⟨n, rfl, h1, h2⟩

theorem nv_neg (neg : Bool) (ds : List Int) : nv (!neg) ds = -nv neg ds := by cases neg <;> simp [nv]

theorem slice_val {w : World} {v : Value} {ds : List Int} (h : Dl w v ds) : ∃ ao n c, v = .slice ao n c ∧ n = ds.length := by
  rcases h.shape with ⟨rfl, rfl⟩ | ⟨g, cap, rfl, _⟩
  · exact ⟨_, _, _, rfl, rfl⟩
  · exact ⟨_, _, _, rfl, rfl⟩

set_option maxHeartbeats 400000 in
theorem minus_num (n : Value) (x : Int) (L : Nat) (w : World) (h : Nu w n x L) :
    Calls Try.prog 42 #[n] w fun e w' => NuRet w (-x) L e w' := by
  obtain ⟨neg, v, ds, rfl, h1, h2, h3, h4⟩ := h.ex
  obtain ⟨ao, m, c, rfl, hm⟩ := slice_val h1
  have H : Hid (∀ w', New w w' → NuRet w (-x) L (.returned (.agg #[.bool !neg, .slice ao m c])) w') := fun w' hn => NuRet.mk ⟨⟨!neg, _, ds, rfl, h1.kept hn, h2, by rw [h3, nv_neg], h4⟩⟩ hn
  clear h h1 h2 h3 h4 hm
  go_enter Try.func42, Try.ntmps42
  go_wp2
  exact bodyPost_ret (v := .agg #[.bool !neg, .slice ao m c]) (by simp [results, Try.results42, go_sem]) rfl (H.out _ ((New.alloc _ _).alloc' _))

set_option maxHeartbeats 400000 in
theorem sign_num (n : Value) (x : Int) (L : Nat) (w : World) (h : Nu w n x L) (hL : L ≤ 1000) :
    Calls Try.prog 40 #[n] w fun e w' => e = .returned (.int .i64 (sgn x)) ∧ Hid (New w w') := by
  obtain ⟨neg, v, ds, rfl, h1, h2, h3, h4⟩ := h.ex
  obtain ⟨ao, m, c, rfl, hm⟩ := slice_val h1
  have hz := dv_zero h1.ok h2
  have hnn := dv_nonneg h1.ok
  have hm2 : m ≤ 1000 := by omega
  by_cases h0 : m = 0
  · have hd : ds = [] := List.eq_nil_of_length_eq_zero (by omega)
    have HS : Hid (sgn x = 0) := by rw [Hid, h3, hd]; cases neg <;> rfl
    clear h h1 h2 h3 h4 hm hz hnn hd
    subst h0
    go_enter Try.func40, Try.ntmps40
    go_wp2
    go_ret
    exact ⟨by rw [HS.out]; rfl, New.alloc _ _⟩
  · have hd : dv ds ≠ 0 := fun e => by have := hz.1 e; rw [this] at hm; simp at hm; omega
    have hb : ((m : Int) == 0) = false := by rw [beq_eq_false_iff_ne]; omega
    cases neg with
    | true =>
      have HS : Hid (sgn x = -1) := by rw [Hid, h3, nv, if_pos rfl, sgn, if_pos (by omega)]
      clear h h1 h2 h3 h4 hm hz hnn hd h0
      go_enter Try.func40, Try.ntmps40
      go_wp2
      go_ret
      exact ⟨by rw [HS.out]; rfl, New.alloc _ _⟩
    | false =>
      have HS : Hid (sgn x = 1) := by rw [Hid, h3, nv, if_neg (by simp), sgn, if_neg (by omega), if_neg (by omega)]
      clear h h1 h2 h3 h4 hm hz hnn hd h0
      go_enter Try.func40, Try.ntmps40
      go_wp2
      go_ret
      exact ⟨by rw [HS.out]; rfl, New.alloc _ _⟩

end Go.Proofs.Ytgeoffpcmkofkaa
