/- Qc; Tc: texts laid into one. -/
import Derived.Test.YtgeoffpcmkofkaaGreatQai
import Derived.Test.YtgeoffpcmkofkaaGreatQah
/- The walk of 'Compact' of package slices, at points. -/
namespace Go.Proofs.YtgeoffpcmkofkaaGreat
open Go.RowKit Fl
set_option maxRecDepth 100000
attribute [local go_sem ↓] Go.wp_at_zero Go.wp_at_succ

/-- The first k of them, without those that are as the one ahead. -/
def ddN (l : Pts) : Nat → Pts
  | 0 => []
  | k + 1 => match l[k]? with
    | none => ddN l k
    | some p => if 0 < k ∧ l[k - 1]? = some p then ddN l k else ddN l k ++ [p]
theorem ddN_same {l : Pts} {k : Nat} {p : Pt} (h : l[k]? = some p) (h0 : 0 < k) (h1 : l[k - 1]? = some p) : ddN l (k + 1) = ddN l k := by
  simp only [ddN, h]; rw [if_pos ⟨h0, h1⟩]
theorem ddN_other {l : Pts} {k : Nat} {p : Pt} (h : l[k]? = some p) (h1 : 0 < k → l[k - 1]? ≠ some p) : ddN l (k + 1) = ddN l k ++ [p] := by
  simp only [ddN, h]; rw [if_neg (fun c => h1 c.1 c.2)]
theorem ddN_le (l : Pts) : ∀ k, (ddN l k).length ≤ k
  | 0 => by simp [ddN]
  | k + 1 => by
    have := ddN_le l k
    unfold ddN
    split
    · omega
    · split
      · omega
      · simp; omega

theorem ddN_take {l : Pts} {k : Nat} {p q : Pt} (hp : l[k]? = some p) (hq : l[k + 1]? = some q) (hne : q ≠ p) (h : ddN l (k + 1) = l.take (k + 1)) : ddN l (k + 1 + 1) = l.take (k + 1 + 1) := by
  rw [ddN_other hq (fun _ => by simp [hp]; exact fun c => hne c.symm), h, List.take_add_one (i := k + 1), hq]
  rfl
theorem ddN_one {l : Pts} (h : 0 < l.length) : ddN l 1 = l.take 1 := by
  have e : l[0]? = some l[0] := List.getElem?_eq_getElem h
  rw [ddN_other e (fun c => by omega)]
  cases l with
  | nil => simp at h
  | cons a l => simp [ddN]
theorem ddN_short {l : Pts} (h : l.length < 2) : ddN l l.length = l := by
  match l, h with
  | [], _ => rfl
  | [a], _ => rfl

/-- A shorter row. -/
theorem own_shrink {w : World} {base e size g n cap c : Nat} {xs : List Value} (h : w.ownsRow base e size (.slice (some ⟨g, 0, none⟩) n cap) n xs) (hc : c ≤ n) : w.ownsRow base e size (.slice (some ⟨g, 0, none⟩) c cap) c (xs.take (c * size)) := by
  rcases h.2 with ⟨h', _⟩ | ⟨g', cap', cur, h', hb, hg, h3, h4, h5, h6⟩
  · simp at h'
  · simp only [Value.slice.injEq, Option.some.injEq, Addr.mk.injEq, and_true, true_and] at h'
    obtain ⟨rfl, rfl⟩ := h'
    have hle : c * size ≤ n * size := Nat.mul_le_mul_right _ hc
    refine ⟨by rw [List.length_take, h.1]; omega, .inr ⟨g, cap, cur, rfl, hb, hg, by omega, h4, h5, ?_⟩⟩
    rw [← h6, List.take_take, Nat.min_eq_left hle]
/-- Writes behind its head. -/
theorem own_behind {base e size g n cap : Nat} : ∀ (vs : List Value) (o : Nat) {w : World} {xs : List Value}, w.ownsRow base e size (.slice (some ⟨g, 0, none⟩) n cap) n xs →
    ∃ ys, (w.setCells g o vs).ownsRow base e size (.slice (some ⟨g, 0, none⟩) n cap) n ys ∧ ys.take o = xs.take o ∧ w.grownBy (w.setCells g o vs) (some g)
  | [], o, w, xs, h => ⟨xs, h, rfl, ⟨rfl, rfl, rfl, Nat.le_refl _, fun _ _ _ => rfl⟩⟩
  | v :: vs, o, w, xs, h => by
    have s := World.ownsRow.stored h o v
    obtain ⟨ys, h1, h2, h3⟩ := own_behind vs (o + 1) s.1
    refine ⟨ys, h1, ?_, s.2.trans h3⟩
    have e1 : ys.take o = (ys.take (o + 1)).take o := by rw [List.take_take]; congr 1; omega
    rw [e1, h2, List.take_take, Nat.min_eq_left (by omega), List.take_set_of_le (Nat.le_refl _)]
theorem clear_pairs (w : World) (ty b o n c : Nat) (hn : 0 < n) (hc : ∀ j, j < n * 2 → (w.cell? ⟨b, o + j, none⟩).isSome = true) (hf : ∀ j, j < n * 2 → w.frozen? ⟨b, o + j, none⟩ = false) :
    (Builtin.clear_ #[22] ty #[.slice (some ⟨b, o, none⟩) n c]).run Tryz.prog w = .ok (.tuple #[]) (w.setCells b o (List.replicate (n * 2) (.int .i64 0))) := by
  have hzc : (Builtin.zeroCells #[.int .i64 0, .int .i64 0] n).toList = List.replicate (n * 2) (.int .i64 0) := by
    apply List.ext_getElem
    · simp [Builtin.zeroCells]
    · intro i h1 h2
      simp [Builtin.zeroCells]
      rcases Nat.mod_two_eq_zero_or_one i with k | k <;> rw [k] <;> rfl
  have hst := run_storeCells_cells (P := Tryz.prog) b o (List.replicate (n * 2) (.int .i64 0)) 0 w (by simpa using hc) (by simpa using hf) (by intro v hv'; rw [List.eq_of_mem_replicate hv']; rfl)
  simp only [Nat.add_zero] at hst
  obtain ⟨m, rfl⟩ : ∃ m, n = m + 1 := ⟨n - 1, by omega⟩
  have hv := zero36 w
  simp only [ptV] at hv
  simp [Builtin.clear_, run_underlying Tryz.underlying22, hv, Value.cells, hzc, hst]

/-- Where the inner loop stands. -/
structure InC (w wr : World) (base g cap : Nat) (l : Pts) (k c m : Nat) (cur : Pts) : Prop where
  gr : w.grownBy wr (some g)
  len : cur.length = l.length
  own : OwnP wr base (.slice (some ⟨g, 0, none⟩) cur.length cap) cur
  pre : cur.take c = ddN l (k + m)
  cnt : c = (ddN l (k + m)).length
  tail : ∀ i, k + m ≤ i + 1 → cur[i]? = l[i]?
theorem InC.skip {w wr wx : World} {base g cap : Nat} {l : Pts} {k c m : Nat} {cur : Pts} (h : InC w wr base g cap l k c m cur) (hn : New wr wx) {p : Pt} (h0 : 0 < k + m) (h1 : l[k + m]? = some p) (h2 : l[k + m - 1]? = some p) : InC w wx base g cap l k c (m + 1) cur := by
  have e := ddN_same h1 h0 h2
  exact ⟨h.gr.trans (hn.but (some g)), h.len, h.own.new hn, by rw [← Nat.add_assoc, e]; exact h.pre, by rw [← Nat.add_assoc, e]; exact h.cnt, fun i hi => h.tail i (by omega)⟩
theorem InC.put {w wr wx : World} {base g cap : Nat} {l : Pts} {k c m : Nat} {cur : Pts} (h : InC w wr base g cap l k c m cur) (hn : New wr wx) {p : Pt} (h1 : l[k + m]? = some p) (h2 : l[k + m - 1]? ≠ some p) (hc : c + 1 ≤ k + m) :
    InC w ((wx.setCell ⟨g, c * 2, none⟩ (.int .i64 p.1)).setCell ⟨g, c * 2 + 1, none⟩ (.int .i64 p.2)) base g cap l k (c + 1) (m + 1) (cur.set c p) := by
  have hlt : k + m < l.length := (List.getElem?_eq_some_iff.1 h1).1
  have hcl : c < cur.length := by rw [h.len]; omega
  have s := (h.own.new hn).set hcl p
  have e := ddN_other h1 (fun _ => h2)
  refine ⟨(h.gr.trans (hn.but (some g))).trans s.2, by rw [List.length_set]; exact h.len, by rw [List.length_set]; exact s.1, ?_, ?_, fun i hi => ?_⟩
  · rw [← Nat.add_assoc, e, ← h.pre, List.take_add_one]
    simp [hcl, List.take_set_of_le]
  · rw [← Nat.add_assoc, e, List.length_append, ← h.cnt]; rfl
  · rw [List.getElem?_set_ne (by omega)]; exact h.tail i (by omega)

set_option maxHeartbeats 3200000 in
theorem compact_some (base g cap : Nat) (l : Pts) (w : World) (h : OwnP w base (.slice (some ⟨g, 0, none⟩) l.length cap) l) (hl : l.length ≤ 1000000) (hcap : l.length ≤ cap) :
    Calls Tryz.prog 43 #[.slice (some ⟨g, 0, none⟩) l.length cap] w fun e w' => e = .returned (.slice (some ⟨g, 0, none⟩) (ddN l l.length).length cap) ∧ Hid (w.grownBy w' (some g) ∧ OwnP w' base (.slice (some ⟨g, 0, none⟩) (ddN l l.length).length cap) (ddN l l.length)) := by
  have H : Hid (OwnP w base (.slice (some ⟨g, 0, none⟩) l.length cap) l) := h
  clear h
  go_enter Tryz.func43, Tryz.ntmps43
  by_cases h2 : l.length < 2
  · have HD : Hid (ddN l l.length = l) := ddN_short h2
    have h2' : (l.length : Int) < 2 := by omega
    go_wp2_with fail
    go_ret
    rw [HD.out]
    exact ⟨rfl, ⟨rfl, rfl, rfl, Nat.le_refl _, fun _ _ _ => rfl⟩, H.out⟩
  · go_wp2_with fail
    go_loopw [3] (fun v3 wr => ∃ k : Nat, v3 = .int .i64 (k : Int) ∧ 1 ≤ k ∧ k ≤ l.length ∧ Hid (New w wr ∧ ddN l k = l.take k)) (fun v3 _ => l.length - (intOf v3).toNat)
    case atStart => exact ⟨1, rfl, by omega, by omega, New.refl _, ddN_one (by omega)⟩
    case round =>
      obtain ⟨k, rfl, hk1, hk2, HR⟩ := hrel
      rcases Nat.lt_or_ge k l.length with hk | hk
      · have HO : Hid (OwnP wr base (.slice (some ⟨g, 0, none⟩) l.length cap) l) := H.out.new HR.out.1
        obtain ⟨j, hj⟩ : ∃ j, k = j + 1 := ⟨k - 1, by omega⟩
        obtain ⟨x0, x1⟩ := HO.out.cell (show j < l.length by omega)
        obtain ⟨y0, y1⟩ := HO.out.cell hk
        obtain ⟨p, hp⟩ : ∃ p, p = l[j]'(by omega) := ⟨_, rfl⟩
        obtain ⟨q, hq⟩ : ∃ q, q = l[k] := ⟨_, rfl⟩
        rw [← hp] at x0 x1
        rw [← hq] at y0 y1
        have HPQ : Hid (l[j]? = some p ∧ l[k]? = some q ∧ k = j + 1) := ⟨by rw [hp]; exact List.getElem?_eq_getElem _, by rw [hq]; exact List.getElem?_eq_getElem hk, hj⟩
        clear hp hq
        have hw : IntKind.i64.wrap ((k : Int) - 1) = (j : Int) := by rw [IntKind.wrap_i64]; omega
        have i0 : (0 : Int) ≤ (k : Int) := by omega
        have i1 : (k : Int) < (l.length : Int) := by omega
        have i2 : (0 : Int) ≤ (j : Int) := by omega
        have i3 : (j : Int) < (l.length : Int) := by omega
        clear hj
        go_wp2_with fail
        by_cases hpq : q = p
        · subst hpq
          go_region_held3 (fun W => W.cell? ⟨g, j * 2, none⟩ = some (.int .i64 q.1) ∧ W.cell? ⟨g, j * 2 + 1, none⟩ = some (.int .i64 q.2) ∧ W.cell? ⟨g, k * 2, none⟩ = some (.int .i64 q.1) ∧ W.cell? ⟨g, k * 2 + 1, none⟩ = some (.int .i64 q.2))
            (go_keep) (first | fail)
          clear x0 x1 y0 y1
          have HI : Hid (InC w wr.drew base g cap l k k 1 l) := by
            have e := ddN_same HPQ.out.2.1 (by omega) (show l[k - 1]? = some q by rw [HPQ.out.2.2, Nat.add_sub_cancel]; exact HPQ.out.1)
            exact ⟨(HR.out.1.dr).but (some g), rfl, HO.out.new (New.refl wr).dr, by rw [e]; exact HR.out.2.symm, by rw [e, HR.out.2, List.length_take]; omega, fun _ _ => rfl⟩
          clear HR HO HPQ hw i2 i3
          generalize wr = ws at *
          go_wp2_with fail
          go_loopw [3, 5] (fun v3 v5 wr => ∃ (c m : Nat) (cur : Pts), v3 = .int .i64 (c : Int) ∧ v5 = .int .i64 (m : Int) ∧ 1 ≤ m ∧ m ≤ l.length - k ∧ c + 1 ≤ k + m ∧ Hid (InC w wr base g cap l k c m cur)) (fun _ v5 _ => l.length - k - (intOf v5).toNat)
          case atStart => exact ⟨k, 1, l, rfl, rfl, by omega, by omega, by omega, HI⟩
          case round =>
            obtain ⟨c, m, cur, rfl, rfl, hm1, hm2, hc, HJ⟩ := hrel
            have i4 : (0 : Int) ≤ (c : Int) := by omega
            have i5 : (c : Int) < (l.length : Int) := by omega
            rcases Nat.lt_or_ge m (l.length - k) with hm | hm
            · obtain ⟨r, hr⟩ : ∃ r, m = r + 1 := ⟨m - 1, by omega⟩
              have hlen := HJ.out.len
              have t1 := HJ.out.tail (k + m) (by omega)
              have t2 := HJ.out.tail (k + r) (by omega)
              obtain ⟨y0, y1⟩ := HJ.out.own.cell (show k + m < cur.length by omega)
              obtain ⟨x0, x1⟩ := HJ.out.own.cell (show k + r < cur.length by omega)
              obtain ⟨p, hp⟩ : ∃ p, p = cur[k + r]'(by omega) := ⟨_, rfl⟩
              obtain ⟨q, hq⟩ : ∃ q, q = cur[k + m]'(by omega) := ⟨_, rfl⟩
              rw [← hp] at x0 x1
              rw [← hq] at y0 y1
              have HPQ : Hid (l[k + m - 1]? = some p ∧ l[k + m]? = some q ∧ 0 < k + m) := ⟨by rw [show k + m - 1 = k + r by omega, ← t2, hp]; exact List.getElem?_eq_getElem _, by rw [← t1, hq]; exact List.getElem?_eq_getElem _, by omega⟩
              rw [Nat.add_mul] at x0 x1 y0 y1
              have hw : IntKind.i64.wrap ((m : Int) - 1) = (r : Int) := by rw [IntKind.wrap_i64]; omega
              have hw1 : IntKind.i64.wrap ((m : Int) + 1) = (m : Int) + 1 := by rw [IntKind.wrap_i64]; omega
              have hw2 : IntKind.i64.wrap ((c : Int) + 1) = (c : Int) + 1 := by rw [IntKind.wrap_i64]; omega
              have j0 : (0 : Int) ≤ (m : Int) := by omega
              have j1 : (m : Int) < (l.length : Int) - (k : Int) := by omega
              have j2 : (0 : Int) ≤ (r : Int) := by omega
              have j3 : (r : Int) < (l.length : Int) - (k : Int) := by omega
              have j4 : (m : Int) < ((l.length - k : Nat) : Int) := by omega
              have j5 : (r : Int) < ((l.length - k : Nat) : Int) := by omega
              obtain ⟨s0, s1⟩ := HJ.out.own.cell (show c < cur.length by omega)
              obtain ⟨z, hz⟩ : ∃ z, z = cur[c]'(by omega) := ⟨_, rfl⟩
              rw [← hz] at s0 s1
              have f0 := World.ownsRow.frozenAt HJ.out.own (c * 2)
              have f1 := World.ownsRow.frozenAt HJ.out.own (c * 2 + 1)
              clear hp hq t1 t2 hr hz
              go_wp2_with fail
              by_cases hpq : q = p
              · subst hpq
                go_region_held3 (fun W => W.cell? ⟨g, k * 2 + r * 2, none⟩ = some (.int .i64 q.1) ∧ W.cell? ⟨g, k * 2 + r * 2 + 1, none⟩ = some (.int .i64 q.2) ∧ W.cell? ⟨g, k * 2 + m * 2, none⟩ = some (.int .i64 q.1) ∧ W.cell? ⟨g, k * 2 + m * 2 + 1, none⟩ = some (.int .i64 q.2))
                  (go_keep) (first | fail)
                have HN : Hid (InC w wr.drew base g cap l k c (m + 1) cur) := HJ.out.skip (New.refl wr).dr HPQ.out.2.2 HPQ.out.2.1 HPQ.out.1
                clear x0 x1 y0 y1 s0 s1 f0 f1
                go_wp2_with fail
                go_roundw
                case rel => exact ⟨c, m + 1, cur, rfl, by go_num, by omega, by omega, by omega, HN⟩
                case measure => simp [intOf]; omega
              · have HN : Hid (InC w ((wr.drew.setCell ⟨g, c * 2, none⟩ (.int .i64 q.1)).setCell ⟨g, c * 2 + 1, none⟩ (.int .i64 q.2)) base g cap l k (c + 1) (m + 1) (cur.set c q)) := HJ.out.put (New.refl wr).dr HPQ.out.2.1 (by rw [HPQ.out.1]; simp; exact fun c => hpq c.symm) hc
                have hne : ¬(q.1 = p.1 ∧ q.2 = p.2) := fun k => hpq (pt_ext k.1 k.2)
                by_cases h1 : q.1 = p.1
                · have h2 : ¬q.2 = p.2 := fun k => hne ⟨h1, k⟩
                  go_region_held3 (fun W => W.cell? ⟨g, k * 2 + r * 2, none⟩ = some (.int .i64 p.1) ∧ W.cell? ⟨g, k * 2 + r * 2 + 1, none⟩ = some (.int .i64 p.2) ∧ W.cell? ⟨g, k * 2 + m * 2, none⟩ = some (.int .i64 q.1) ∧ W.cell? ⟨g, k * 2 + m * 2 + 1, none⟩ = some (.int .i64 q.2))
                    (go_keep) (first | fail)
                  go_wp2_with fail
                  go_roundw
                  case rel => exact ⟨c + 1, m + 1, cur.set c q, by go_num, by go_num, by omega, by omega, by omega, by have t := HN.out; rw [h1] at t; exact t⟩
                  case measure => simp [intOf]; omega
                · go_region_held3 (fun W => W.cell? ⟨g, k * 2 + r * 2, none⟩ = some (.int .i64 p.1) ∧ W.cell? ⟨g, k * 2 + r * 2 + 1, none⟩ = some (.int .i64 p.2) ∧ W.cell? ⟨g, k * 2 + m * 2, none⟩ = some (.int .i64 q.1) ∧ W.cell? ⟨g, k * 2 + m * 2 + 1, none⟩ = some (.int .i64 q.2))
                    (go_keep) (first | fail)
                  go_wp2_with fail
                  go_roundw
                  case rel => exact ⟨c + 1, m + 1, cur.set c q, by go_num, by go_num, by omega, by omega, by omega, HN⟩
                  case measure => simp [intOf]; omega
            · have hme : m = l.length - k := by omega
              have hcn : c < l.length := by omega
              have hlen := HJ.out.len
              have HCL : Hid (∀ ty, (Builtin.clear_ #[22] ty #[.slice (some ⟨g, c * 2, none⟩) (l.length - c) (cap - c)]).run Tryz.prog wr = .ok (.tuple #[]) (wr.setCells g (c * 2) (List.replicate ((l.length - c) * 2) (.int .i64 0)))) := fun ty => by
                refine clear_pairs wr ty g (c * 2) (l.length - c) (cap - c) (by omega) (fun j hj => ?_) (fun j _ => World.ownsRow.frozenAt HJ.out.own _)
                rw [World.ownsRow.cellAt HJ.out.own (c * 2 + j) (by omega), List.getElem?_eq_getElem (by rw [flat_length lenP]; omega)]
                rfl
              have HF : Hid (w.grownBy (wr.setCells g (c * 2) (List.replicate ((l.length - c) * 2) (.int .i64 0))) (some g) ∧ OwnP (wr.setCells g (c * 2) (List.replicate ((l.length - c) * 2) (.int .i64 0))) base (.slice (some ⟨g, 0, none⟩) (ddN l l.length).length cap) (ddN l l.length) ∧ (ddN l l.length).length = c) := by
                have e : k + m = l.length := by omega
                have hp := HJ.out.pre
                have hcn := HJ.out.cnt
                rw [e] at hp hcn
                obtain ⟨ys, h1, h2, h3⟩ := own_behind (List.replicate ((l.length - c) * 2) (.int .i64 0)) (c * 2) HJ.out.own
                refine ⟨HJ.out.gr.trans h3, ?_, hcn.symm⟩
                have := own_shrink h1 (show c ≤ cur.length by omega)
                rw [h2] at this
                unfold OwnP
                rw [← hcn, ← hp]
                have e2 : (cur.flatMap encP).take (c * 2) = (cur.take c).flatMap encP := by
                  have e3 := congrArg (fun l => l.flatMap encP) (List.take_append_drop c cur)
                  simp only [List.flatMap_append] at e3
                  rw [← e3, List.take_append_of_le_length (by rw [flat_length lenP, List.length_take]; omega), List.take_of_length_le (by rw [flat_length lenP, List.length_take]; omega)]
                rw [← e2]
                exact this
              have hcl := HCL.out
              clear HCL HI hme
              go_wp2_with fail
              go_ret
              exact ⟨by rw [HF.out.2.2]; rfl, HF.out.1, HF.out.2.1⟩
        · have HN : Hid (ddN l (k + 1) = l.take (k + 1)) := by
            have e := HPQ.out.2.2
            have h1 := HPQ.out.2.1
            have h2 := HR.out.2
            rw [e] at h1 h2 ⊢
            exact ddN_take HPQ.out.1 h1 hpq h2
          have hw1 : IntKind.i64.wrap ((k : Int) + 1) = (k : Int) + 1 := by rw [IntKind.wrap_i64]; omega
          have hne : ¬(q.1 = p.1 ∧ q.2 = p.2) := fun k => hpq (pt_ext k.1 k.2)
          by_cases h1 : q.1 = p.1
          · have h2 : ¬q.2 = p.2 := fun k => hne ⟨h1, k⟩
            go_region_held3 (fun W => W.cell? ⟨g, j * 2, none⟩ = some (.int .i64 p.1) ∧ W.cell? ⟨g, j * 2 + 1, none⟩ = some (.int .i64 p.2) ∧ W.cell? ⟨g, k * 2, none⟩ = some (.int .i64 q.1) ∧ W.cell? ⟨g, k * 2 + 1, none⟩ = some (.int .i64 q.2))
              (go_keep) (first | fail)
            clear x0 x1 y0 y1
            go_wp2_with fail
            go_roundw
            case rel => exact ⟨k + 1, by go_num, by omega, by omega, HR.out.1.dr, HN.out⟩
            case measure => simp [intOf]; omega
          · go_region_held3 (fun W => W.cell? ⟨g, j * 2, none⟩ = some (.int .i64 p.1) ∧ W.cell? ⟨g, j * 2 + 1, none⟩ = some (.int .i64 p.2) ∧ W.cell? ⟨g, k * 2, none⟩ = some (.int .i64 q.1) ∧ W.cell? ⟨g, k * 2 + 1, none⟩ = some (.int .i64 q.2))
              (go_keep) (first | fail)
            clear x0 x1 y0 y1
            go_wp2_with fail
            go_roundw
            case rel => exact ⟨k + 1, by go_num, by omega, by omega, HR.out.1.dr, HN.out⟩
            case measure => simp [intOf]; omega
      · have hk3 : k = l.length := by omega
        subst hk3
        have HD : Hid (ddN l l.length = l) := by rw [Hid, HR.out.2, List.take_length]
        go_wp2_with fail
        go_ret
        rw [HD.out]
        exact ⟨rfl, HR.out.1.but (some g), H.out.new HR.out.1⟩

set_option maxHeartbeats 800000 in
theorem compact_nil (w : World) : Calls Tryz.prog 43 #[.slice none 0 0] w fun e w' => e = .returned (.slice none 0 0) ∧ Hid (New w w') := by
  go_enter Tryz.func43, Tryz.ntmps43
  go_wp2_with fail
  go_ret
  exact ⟨rfl, New.refl _⟩

end Go.Proofs.YtgeoffpcmkofkaaGreat
/- One point more, joined to the outer sides that it sees. -/
namespace Go.Proofs.YtgeoffpcmkofkaaGreat

/-! ### Lists -/
theorem length_le_of_sub {α : Type} [DecidableEq α] : ∀ {l₁ l₂ : List α}, l₁.Nodup → (∀ x ∈ l₁, x ∈ l₂) → l₁.length ≤ l₂.length
  | [], _, _, _ => Nat.zero_le _
  | a :: l₁, l₂, hn, hs => by
    rw [List.nodup_cons] at hn
    have ha : a ∈ l₂ := hs a (by simp)
    have := length_le_of_sub (l₁ := l₁) (l₂ := l₂.erase a) hn.2 (fun x hx => (List.mem_erase_of_ne (fun (e : x = a) => hn.1 (e ▸ hx))).2 (hs x (List.mem_cons_of_mem _ hx)))
    rw [List.length_erase_of_mem ha] at this
    have hp : 0 < l₂.length := List.length_pos_of_mem ha
    simp only [List.length_cons]
    omega

theorem nodup_map {α β : Type} {f : α → β} : ∀ {l : List α}, l.Nodup → (∀ x ∈ l, ∀ y ∈ l, f x = f y → x = y) → (l.map f).Nodup
  | [], _, _ => by simp
  | a :: l, hn, hi => by
    rw [List.nodup_cons] at hn
    rw [List.map_cons, List.nodup_cons]
    refine ⟨fun h => ?_, nodup_map hn.2 fun x hx y hy => hi x (List.mem_cons_of_mem _ hx) y (List.mem_cons_of_mem _ hy)⟩
    obtain ⟨x, hx, e⟩ := List.mem_map.1 h
    exact hn.1 (hi x (List.mem_cons_of_mem _ hx) a (by simp) e ▸ hx)

/-- A round trip among finitely many that is one to one leaves none out. -/
theorem one_to_one {α : Type} [DecidableEq α] {A B : List α} {f : α → α} (hA : A.Nodup) (hf : ∀ x ∈ A, f x ∈ B) (hi : ∀ x ∈ A, ∀ y ∈ A, f x = f y → x = y) (hB : ∀ x ∈ B, x ∈ A) {v : α} (hv : v ∈ A) : v ∈ B := by
  rcases Classical.em (v ∈ B) with h | h
  · exact h
  · exfalso
    have h1 : (A.map f).length ≤ (A.erase v).length := by
      refine length_le_of_sub (nodup_map hA hi) fun x hx => ?_
      obtain ⟨y, hy, rfl⟩ := List.mem_map.1 hx
      have := hf y hy
      exact (List.mem_erase_of_ne (fun (e : f y = v) => h (e ▸ this))).2 (hB _ this)
    rw [List.length_map, List.length_erase_of_mem hv] at h1
    have := List.length_pos_of_mem hv
    omega

section
variable {S : List Pt} {m : Ms}
/-- An outer side: there is no triangle beyond. -/
def Outer (m : Ms) (u v : Pt) : Prop := (m (u, v)).isSome = true ∧ m (v, u) = none

theorem isSome_get {α : Type} {o : Option α} (h : o.isSome = true) : ∃ x, o = some x := Option.isSome_iff_exists.1 h

theorem ext_of_D {p q : Pt} (h : ∀ y x : Pt, D y x p = D y x q) : p = q := by
  have h1 := h (0, 0) (1, 0)
  have h2 := h (0, 0) (0, 1)
  unfold D det at h1 h2
  simp at h1 h2
  exact pt_ext (by omega) (by omega)

/-- In a line with a side, off the corner: apart from the start. -/
theorem off_line {u v v' z : Pt} (h0 : D u v v' = 0) (hz : D u v z ≠ 0) (hne : v' ≠ u) : D u v' z ≠ 0 := by
  intro h
  apply hne
  apply ext_of_D
  intro y x
  have := along (z := z) h0 y x
  rw [h, Int.zero_mul] at this
  have := mul_eq_zero' this hz
  omega

theorem Ok.outer_mem (h : Ok S m) {u v : Pt} (ho : Outer m u v) : u ∈ S ∧ v ∈ S ∧ u ≠ v ∧ (∀ x ∈ S, 0 ≤ D u v x) ∧ ∃ w ∈ S, m (u, v) = some w ∧ 0 < D u v w := by
  obtain ⟨w, e⟩ := isSome_get ho.1
  have p := h.pos _ _ _ e
  have k := h.mem _ _ _ e
  exact ⟨k.1, k.2.1, ne_of_D (c := w) (by omega), h.hull _ _ _ e ho.2, w, k.2.2, e, p⟩

theorem Ok.outer_start (h : Ok S m) {u v v' : Pt} (ho : Outer m u v) (ho' : Outer m u v') : v' = v := by
  obtain ⟨_, k2, k3, k4, w, k5, k6, k7⟩ := h.outer_mem ho
  obtain ⟨_, l2, l3, l4, w', l5, l6, l7⟩ := h.outer_mem ho'
  have h0 : D u v v' = 0 := by
    have a1 := k4 v' l2
    have a2 := l4 v k2
    rw [D_flip] at a2
    omega
  have h1 : 0 < D u v' w := by
    have a1 := l4 w k5
    have a2 := off_line h0 (z := w) (by omega) (fun e => l3 e.symm)
    omega
  exact h.ray2 (.inl ho.1) (.inl ho'.1) h0 k7 h1

theorem D_mirror (u v w : Pt) : D u v (2 * u.1 - w.1, 2 * u.2 - w.2) = -D u v w := by unfold D det; grind

theorem Ok.outer_end (h : Ok S m) {u v v' : Pt} (ho : Outer m v u) (ho' : Outer m v' u) : v' = v := by
  obtain ⟨k1, k2, k3, k4, w, k5, k6, k7⟩ := h.outer_mem ho
  obtain ⟨l1, l2, l3, l4, w', l5, l6, l7⟩ := h.outer_mem ho'
  have h0 : D u v v' = 0 := by
    have a1 := k4 v' l1
    have a2 := l4 v k1
    have b1 := D_turn v u v'
    have b2 := D_turn v' u v
    have b3 := D_flip u v v'
    omega
  have e1 := D_swap' u v w
  have e2 := D_swap' u v' w
  have a1 := l4 w k5
  have a2 := off_line h0 (z := w) (by omega) l3
  refine h.ray2 (z := (2 * u.1 - w.1, 2 * u.2 - w.2)) (.inr ho.1) (.inr ho'.1) h0 ?_ ?_
  · rw [D_mirror]; omega
  · rw [D_mirror]; omega

/-- Ahead of an outer side there is another. -/
theorem Ok.prev (h : Ok S m) (hS : S.Nodup) {u v : Pt} (ho : Outer m u v) : ∃ t, Outer m t u := by
  rcases Classical.em (∃ t, Outer m t u) with k | k
  · exact k
  · exfalso
    have hB : ∀ t, (m (t, u)).isSome = true → (m (u, t)).isSome = true := by
      intro t ht
      cases e : m (u, t) with
      | none => exact absurd ⟨t, ht, e⟩ k
      | some z => rfl
    obtain ⟨_, v2, _⟩ := h.outer_mem ho
    let A := S.filter fun w => (m (u, w)).isSome
    let B := S.filter fun w => (m (w, u)).isSome
    have : v ∈ B := by
      refine one_to_one (A := A) (B := B) (f := fun w => (m (u, w)).getD u) (hS.filter _) ?_ ?_ ?_ ?_
      · intro x hx
        obtain ⟨z, e⟩ := isSome_get (List.mem_filter.1 hx).2
        simp only [e, Option.getD_some]
        exact List.mem_filter.2 ⟨(h.mem _ _ _ e).2.2, by rw [h.rot' e]; rfl⟩
      · intro x hx y hy k
        obtain ⟨z, e⟩ := isSome_get (List.mem_filter.1 hx).2
        obtain ⟨z', e'⟩ := isSome_get (List.mem_filter.1 hy).2
        simp only [e, e', Option.getD_some] at k
        have r1 := h.rot' e
        have r2 := h.rot' e'
        rw [k, r2] at r1
        injection r1 with r1
        exact r1.symm
      · intro x hx
        have := List.mem_filter.1 hx
        exact List.mem_filter.2 ⟨this.1, hB x this.2⟩
      · exact List.mem_filter.2 ⟨v2, ho.1⟩
    have := (List.mem_filter.1 this).2
    rw [ho.2] at this
    cases this

theorem Ok.next (h : Ok S m) (hS : S.Nodup) {u v : Pt} (ho : Outer m u v) : ∃ t, Outer m v t := by
  rcases Classical.em (∃ t, Outer m v t) with k | k
  · exact k
  · exfalso
    have hB : ∀ t, (m (v, t)).isSome = true → (m (t, v)).isSome = true := by
      intro t ht
      cases e : m (t, v) with
      | none => exact absurd ⟨t, ht, e⟩ k
      | some z => rfl
    obtain ⟨u2, _, _⟩ := h.outer_mem ho
    let A := S.filter fun w => (m (w, v)).isSome
    let B := S.filter fun w => (m (v, w)).isSome
    have : u ∈ B := by
      refine one_to_one (A := A) (B := B) (f := fun w => (m (w, v)).getD v) (hS.filter _) ?_ ?_ ?_ ?_
      · intro x hx
        obtain ⟨z, e⟩ := isSome_get (List.mem_filter.1 hx).2
        simp only [e, Option.getD_some]
        exact List.mem_filter.2 ⟨(h.mem _ _ _ e).2.2, by rw [h.rot _ _ _ e]; rfl⟩
      · intro x hx y hy k
        obtain ⟨z, e⟩ := isSome_get (List.mem_filter.1 hx).2
        obtain ⟨z', e'⟩ := isSome_get (List.mem_filter.1 hy).2
        simp only [e, e', Option.getD_some] at k
        have r1 := h.rot _ _ _ e
        have r2 := h.rot _ _ _ e'
        rw [k, r2] at r1
        injection r1 with r1
        exact r1.symm
      · intro x hx
        have := List.mem_filter.1 hx
        exact List.mem_filter.2 ⟨this.1, hB x this.2⟩
      · exact List.mem_filter.2 ⟨u2, ho.1⟩
    have := (List.mem_filter.1 this).2
    rw [ho.2] at this
    cases this
end

/-! ### One point more -/
def addAll (m : Ms) (L : List Ed) (p : Pt) : Ms := L.foldl (fun m e => addM m e.2 e.1 p) m

/-- Sides that can be joined to a point in any order. -/
structure Joins (L : List Ed) (p : Pt) : Prop where
  nd : L.Nodup
  off : ∀ e ∈ L, e.1 ≠ p ∧ e.2 ≠ p ∧ e.1 ≠ e.2
  st : ∀ e ∈ L, ∀ f ∈ L, e.1 = f.1 → e = f
  en : ∀ e ∈ L, ∀ f ∈ L, e.2 = f.2 → e = f

theorem Joins.tail {e : Ed} {L : List Ed} {p : Pt} (h : Joins (e :: L) p) : Joins L p :=
  ⟨(List.nodup_cons.1 h.nd).2, fun f hf => h.off f (List.mem_cons_of_mem _ hf), fun f hf g hg => h.st f (List.mem_cons_of_mem _ hf) g (List.mem_cons_of_mem _ hg), fun f hf g hg => h.en f (List.mem_cons_of_mem _ hf) g (List.mem_cons_of_mem _ hg)⟩

theorem addM_eq (m : Ms) (a b c : Pt) (f : Ed) : addM m a b c f = if f = (c, a) then some b else if f = (b, c) then some a else if f = (a, b) then some c else m f := by
  simp only [addM, setM]

theorem addAll_out {p : Pt} : ∀ {L : List Ed} {m : Ms}, (∀ e ∈ L, e.1 ≠ p ∧ e.2 ≠ p ∧ e.1 ≠ e.2) → ∀ f : Ed, (f.2, f.1) ∉ L → (f.2 = p → ∀ e ∈ L, e.1 ≠ f.1) → (f.1 = p → ∀ e ∈ L, e.2 ≠ f.2) → addAll m L p f = m f
  | [], _, _, _, _, _, _ => rfl
  | e :: L, m, ho, f, h1, h2, h3 => by
    obtain ⟨u, v⟩ := f
    show addAll (addM m e.2 e.1 p) L p (u, v) = m (u, v)
    rw [addAll_out (fun g hg => ho g (List.mem_cons_of_mem _ hg)) (u, v) (fun k => h1 (List.mem_cons_of_mem _ k)) (fun k g hg => h2 k g (List.mem_cons_of_mem _ hg)) (fun k g hg => h3 k g (List.mem_cons_of_mem _ hg)), addM_eq, if_neg, if_neg, if_neg]
    · intro k; injection k with k k'; apply h1; rw [k, k']; simp
    · intro k; injection k with k k'; exact h2 k' e (by simp) k.symm
    · intro k; injection k with k k'; exact h3 k e (by simp) k'.symm

theorem addAll_in {p : Pt} : ∀ {L : List Ed} {m : Ms}, Joins L p → ∀ e ∈ L, addAll m L p (e.2, e.1) = some p ∧ addAll m L p (e.1, p) = some e.2 ∧ addAll m L p (p, e.2) = some e.1
  | [], _, _, e, he => by simp at he
  | g :: L, m, hJ, e, he => by
    have hn := List.nodup_cons.1 hJ.nd
    show addAll (addM m g.2 g.1 p) L p (e.2, e.1) = some p ∧ addAll (addM m g.2 g.1 p) L p (e.1, p) = some e.2 ∧ addAll (addM m g.2 g.1 p) L p (p, e.2) = some e.1
    rcases List.mem_cons.1 he with rfl | he'
    · have hoff := hJ.off e (by simp)
      have hout : ∀ f ∈ L, f.1 ≠ p ∧ f.2 ≠ p ∧ f.1 ≠ f.2 := fun f hf => hJ.off f (List.mem_cons_of_mem _ hf)
      refine ⟨?_, ?_, ?_⟩
      · rw [addAll_out hout (e.2, e.1) hn.1 (fun k => absurd k hoff.1) (fun k => absurd k hoff.2.1), addM_eq, if_neg, if_neg, if_pos rfl]
        · intro k; injection k with k k'; exact hoff.1 k'
        · intro k; injection k with k k'; exact hoff.2.1 k
      · rw [addAll_out hout (e.1, p) (fun k => (hout _ k).1 rfl) (fun _ f hf k => hn.1 (hJ.st f (List.mem_cons_of_mem _ hf) e (by simp) k ▸ hf)) (fun k => absurd k hoff.1), addM_eq, if_neg, if_pos rfl]
        intro k; injection k with k k'; exact hoff.1 k
      · rw [addAll_out hout (p, e.2) (fun k => (hout _ k).2.1 rfl) (fun k => absurd k hoff.2.1) (fun _ f hf k => hn.1 (hJ.en f (List.mem_cons_of_mem _ hf) e (by simp) k ▸ hf)), addM_eq, if_pos rfl]
    · exact addAll_in hJ.tail e he'

/-- WHATEVER THEIR ORDER. -/
theorem addAll_same {p : Pt} {L L' : List Ed} {m : Ms} (h : Joins L p) (h' : Joins L' p) (hs : ∀ e, e ∈ L ↔ e ∈ L') : addAll m L p = addAll m L' p := by
  funext f
  rcases Classical.em ((f.2, f.1) ∈ L) with k | k
  · have a1 := (addAll_in (m := m) h _ k).1
    have a2 := (addAll_in (m := m) h' _ ((hs _).1 k)).1
    simp only at a1 a2
    rw [a1, a2]
  · rcases Classical.em (f.2 = p ∧ ∃ e ∈ L, e.1 = f.1) with ⟨k1, e, he, k2⟩ | k1
    · have a1 := (addAll_in (m := m) h _ he).2.1
      have a2 := (addAll_in (m := m) h' _ ((hs _).1 he)).2.1
      have ef : f = (e.1, p) := by rw [k2, ← k1]
      rw [ef, a1, a2]
    · rcases Classical.em (f.1 = p ∧ ∃ e ∈ L, e.2 = f.2) with ⟨k2, e, he, k3⟩ | k2
      · have a1 := (addAll_in (m := m) h _ he).2.2
        have a2 := (addAll_in (m := m) h' _ ((hs _).1 he)).2.2
        have ef : f = (p, e.2) := by rw [k3, ← k2]
        rw [ef, a1, a2]
      · rw [addAll_out h.off f k (fun e g hg c => k1 ⟨e, g, hg, c⟩) (fun e g hg c => k2 ⟨e, g, hg, c⟩),
          addAll_out h'.off f (fun c => k ((hs _).2 c)) (fun e g hg c => k1 ⟨e, g, (hs _).2 hg, c⟩) (fun e g hg c => k2 ⟨e, g, (hs _).2 hg, c⟩)]

theorem addAll_inv {p : Pt} {L : List Ed} {m : Ms} (h : Joins L p) {u v w : Pt} (hm : addAll m L p (u, v) = some w) :
    ((v, u) ∈ L ∧ w = p) ∨ (v = p ∧ (u, w) ∈ L) ∨ (u = p ∧ (w, v) ∈ L) ∨ (m (u, v) = some w ∧ (v, u) ∉ L) := by
  rcases Classical.em ((v, u) ∈ L) with k | k
  · have a1 := (addAll_in (m := m) h _ k).1
    simp only at a1
    rw [a1] at hm; injection hm with hm
    exact .inl ⟨k, hm.symm⟩
  · rcases Classical.em (v = p ∧ ∃ e ∈ L, e.1 = u) with ⟨k1, e, he, k2⟩ | k1
    · have a1 := (addAll_in (m := m) h _ he).2.1
      rw [k1] at hm; rw [k2, hm] at a1
      injection a1 with a1
      refine .inr (.inl ⟨k1, ?_⟩)
      rw [a1, ← k2]; exact he
    · rcases Classical.em (u = p ∧ ∃ e ∈ L, e.2 = v) with ⟨k2, e, he, k3⟩ | k2
      · have a1 := (addAll_in (m := m) h _ he).2.2
        rw [k2] at hm; rw [k3, hm] at a1
        injection a1 with a1
        refine .inr (.inr (.inl ⟨k2, ?_⟩))
        rw [a1, ← k3]; exact he
      · rw [addAll_out h.off (u, v) k (fun e g hg c => k1 ⟨e, g, hg, c⟩) (fun e g hg c => k2 ⟨e, g, hg, c⟩)] at hm
        exact .inr (.inr (.inr ⟨hm, k⟩))

theorem isSome_addAll {p : Pt} {L : List Ed} {m : Ms} (h : Joins L p) (f : Ed) (hf : (m f).isSome = true) (hp : f.1 ≠ p ∧ f.2 ≠ p) : (addAll m L p f).isSome = true := by
  rcases Classical.em ((f.2, f.1) ∈ L) with k | k
  · have a1 := (addAll_in (m := m) h _ k).1
    simp only at a1
    rw [a1]; rfl
  · rw [addAll_out h.off f k (fun k => absurd k hp.2) (fun k => absurd k hp.1)]; exact hf

/-- What a point sees. -/
def SeenBy (m : Ms) (p : Pt) (e : Ed) : Prop := Outer m e.1 e.2 ∧ D e.1 e.2 p < 0
structure SeenIs (m : Ms) (p : Pt) (L : List Ed) : Prop where
  nd : L.Nodup
  iff : ∀ e, e ∈ L ↔ SeenBy m p e

theorem seen_joins {S : List Pt} {m : Ms} {p : Pt} {L : List Ed} (h : Ok S m) (hp : p ∉ S) (hL : SeenIs m p L) : Joins L p := by
  refine ⟨hL.nd, ?_, ?_, ?_⟩
  · intro e he
    have k := h.outer_mem ((hL.iff e).1 he).1
    exact ⟨fun c => hp (c ▸ k.1), fun c => hp (c ▸ k.2.1), k.2.2.1⟩
  · intro e he f hf k
    have k1 := ((hL.iff e).1 he).1
    have k2 := ((hL.iff f).1 hf).1
    rw [← k] at k2
    have := h.outer_start k1 k2
    exact Prod.ext k this.symm
  · intro e he f hf k
    have k1 := ((hL.iff e).1 he).1
    have k2 := ((hL.iff f).1 hf).1
    rw [← k] at k2
    have := h.outer_end k1 k2
    exact Prod.ext this.symm k

/-! ### The new point's triangles -/
theorem K_split (u v w p : Pt) : D u v w * K p = D v w p * K u + D w u p * K v + D u v p * K w := by unfold D det K; grind
theorem K_four (o w w' p : Pt) : D o w w' * (K p - K o) = D o p w' * (K w - K o) + D o w p * (K w' - K o) := by unfold D det K; grind
theorem K_along {u v v' z : Pt} (h0 : D u v v' = 0) : D u v z * (K v' - K u) = D u v' z * (K v - K u) := by
  have := along (z := z) h0 (0, 0) (1, -36028797018963968)
  have e : ∀ p : Pt, D (0, 0) (1, -36028797018963968) p = K p := by intro p; unfold D det K; simp; omega
  rw [e, e, e] at this
  exact this
theorem K_slope (q w w' : Pt) : 36028797018963968 * D q w w' = (K q - K w') * (w.2 - q.2) - (K q - K w) * (w'.2 - q.2) := by unfold D det K; grind

theorem above_tri {u v w p : Pt} (ht : 0 < D u v w) (hu : K u < K p) (hv : K v < K p) (hw : K w < K p) (h1 : 0 ≤ D u v p) (h2 : 0 ≤ D v w p) (h3 : 0 ≤ D w u p) : False := by
  have e := K_split u v w p
  have s := D_sum u v w p
  have a1 := mul_nn h2 (show 0 ≤ K p - K u by omega)
  have a2 := mul_nn h3 (show 0 ≤ K p - K v by omega)
  have a3 := mul_nn h1 (show 0 ≤ K p - K w by omega)
  have z : D v w p * (K p - K u) + D w u p * (K p - K v) + D u v p * (K p - K w) = 0 := by grind
  have z1 : D v w p * (K p - K u) = 0 := by omega
  have z2 : D w u p * (K p - K v) = 0 := by omega
  have z3 : D u v p * (K p - K w) = 0 := by omega
  have y1 : D v w p = 0 := by rw [Int.mul_comm] at z1; exact mul_eq_zero' z1 (by omega)
  have y2 : D w u p = 0 := by rw [Int.mul_comm] at z2; exact mul_eq_zero' z2 (by omega)
  have y3 : D u v p = 0 := by rw [Int.mul_comm] at z3; exact mul_eq_zero' z3 (by omega)
  omega

section
variable {S : List Pt} {m : Ms} {p : Pt} {L : List Ed}
theorem new_empty (h : Ok S m) {e0 e1 : Pt} (ho : Outer m e0 e1) (hs : D e0 e1 p < 0) {x : Pt} (hx : x ∈ S) (g1 : 0 ≤ D e1 e0 x) (g2 : 0 ≤ D e0 p x) (g3 : 0 ≤ D p e1 x) : x = e0 ∨ x = e1 := by
  obtain ⟨_, _, _, k4, c, k5, k6, k7⟩ := h.outer_mem ho
  have a := k4 x hx
  have b := D_swap' e0 e1 x
  have z : D e1 e0 x = 0 := by omega
  have hp : 0 < D e1 e0 p := by rw [D_swap']; omega
  have E : ∀ y q : Pt, D e1 e0 p * D y q x = D e0 p x * D y q e1 + D p e1 x * D y q e0 := by
    intro y q
    have := D_split e1 e0 p y q x
    rw [z] at this
    omega
  have f1 : 0 ≤ D e1 c x := by
    apply nonneg_of_mul hp
    rw [E, D_same1]
    have : D e1 c e0 = D e0 e1 c := D_turn e0 e1 c
    rw [this]
    have := mul_nn g3 (Int.le_of_lt k7)
    omega
  have f2 : 0 ≤ D c e0 x := by
    apply nonneg_of_mul hp
    rw [E, D_same2]
    have : D c e0 e1 = D e0 e1 c := D_turn' e0 e1 c
    rw [this]
    have := mul_nn g2 (Int.le_of_lt k7)
    omega
  rcases h.empty e0 e1 c k6 x hx a f1 f2 with e | e | e
  · exact .inl e
  · exact .inr e
  · subst e; omega

/-- The new outer side to the point: all lie to its left. -/
theorem tangent_to {o g t x c : Pt} (a1 : 0 ≤ D o g x) (a2 : 0 ≤ D t o x) (a3 : D o g p < 0) (a4 : 0 ≤ D t o p) (a5 : 0 ≤ D t o g) (c1 : 0 < D o g c) (c2 : 0 ≤ D t o c) (ht : t ≠ o) : 0 ≤ D o p x := by
  have T : ∀ y, D o t y = -D t o y := fun y => D_swap' t o y
  have e := D_four o g p t x
  have q1 : D o g t = D t o g := by have := D_turn t o g; omega
  have q2 : D o p t = D t o p := by have := D_turn t o p; omega
  rw [q1, q2, T x] at e
  have g1 := mul_nn (show 0 ≤ -D o g p by omega) a2
  have g2 := mul_nn a1 a4
  have e' : D t o g * D o p x = -D o g p * D t o x + D o g x * D t o p := by rw [e]; grind
  rcases Int.lt_or_eq_of_le a5 with k | k
  · exact nonneg_of_mul k (by omega)
  · exfalso
    have h0 : D o g t = 0 := by omega
    have al := along (z := c) h0 o p
    rw [D_same1] at al
    have q3 : D o p g = -D o g p := D_flip o g p
    rw [q2, q3, T c] at al
    have w1 := mul_nn (Int.le_of_lt c1) a4
    have w2 := mul_nn c2 (show 0 ≤ -D o g p by omega)
    have al' : D o g c * D t o p = -(D t o c * -D o g p) := by grind
    have w3 : D t o c * -D o g p = 0 := by omega
    have w4 : D t o c = 0 := by rw [Int.mul_comm] at w3; exact mul_eq_zero' w3 (by omega)
    exact off_line h0 (z := c) (by omega) ht (by rw [T c]; omega)

theorem tangent_from {o g t x c : Pt} (a1 : 0 ≤ D g o x) (a2 : 0 ≤ D o t x) (a3 : D g o p < 0) (a4 : 0 ≤ D o t p) (a5 : 0 ≤ D o t g) (c1 : 0 < D g o c) (c2 : 0 ≤ D o t c) (ht : t ≠ o) : 0 ≤ D p o x := by
  have T : ∀ y, D o g y = -D g o y := fun y => D_swap' g o y
  have e := D_four o g p t x
  have q1 : D o g t = -D o t g := D_flip o t g
  have q2 : D o p t = -D o t p := D_flip o t p
  have q3 : D p o x = -D o p x := D_swap' o p x
  rw [q1, q2, T x, T p] at e
  have g1 := mul_nn (show 0 ≤ -D g o p by omega) a2
  have g2 := mul_nn a1 a4
  have e' : D o t g * D p o x = -D g o p * D o t x + D g o x * D o t p := by rw [q3]; grind
  rcases Int.lt_or_eq_of_le a5 with k | k
  · exact nonneg_of_mul k (by omega)
  · exfalso
    have h0 : D o g t = 0 := by omega
    have al := along (z := c) h0 o p
    rw [D_same1] at al
    have q4 : D o p g = -D o g p := D_flip o g p
    rw [q2, q4, T c, T p] at al
    have w1 := mul_nn (Int.le_of_lt c1) a4
    have w2 := mul_nn c2 (show 0 ≤ -D g o p by omega)
    have al' : D g o c * D o t p = -(D o t c * -D g o p) := by grind
    have w3 : D o t c * -D g o p = 0 := by omega
    have w4 : D o t c = 0 := by rw [Int.mul_comm] at w3; exact mul_eq_zero' w3 (by omega)
    have c3 : D o g c ≠ 0 := by rw [T c]; omega
    exact off_line h0 (z := c) c3 ht w4
end

section
variable {S : List Pt} {m : Ms} {p : Pt} {L : List Ed}
theorem nb_addAll (hJ : Joins L p) (hL : SeenIs m p L) {u v : Pt} (hn : Nb (addAll m L p) u v) :
    Nb m u v ∨ (v = p ∧ ∃ e ∈ L, u = e.1 ∨ u = e.2) ∨ (u = p ∧ ∃ e ∈ L, v = e.1 ∨ v = e.2) := by
  rcases hn with k | k
  · obtain ⟨w, e⟩ := isSome_get k
    rcases addAll_inv hJ e with ⟨k1, _⟩ | ⟨k1, k2⟩ | ⟨k1, k2⟩ | ⟨k1, _⟩
    · exact .inl (.inr ((hL.iff _).1 k1).1.1)
    · exact .inr (.inl ⟨k1, _, k2, .inl rfl⟩)
    · exact .inr (.inr ⟨k1, _, k2, .inr rfl⟩)
    · exact .inl (.inl (by rw [k1]; rfl))
  · obtain ⟨w, e⟩ := isSome_get k
    rcases addAll_inv hJ e with ⟨k1, _⟩ | ⟨k1, k2⟩ | ⟨k1, k2⟩ | ⟨k1, _⟩
    · exact .inl (.inl ((hL.iff _).1 k1).1.1)
    · exact .inr (.inr ⟨k1, _, k2, .inl rfl⟩)
    · exact .inr (.inl ⟨k1, _, k2, .inr rfl⟩)
    · exact .inl (.inr (by rw [k1]; rfl))

/-- ONE POINT MORE, joined to what it sees, leaves all as it must be. -/
theorem sweep_ok (h : Ok S m) (hS : S.Nodup) (hK : ∀ x ∈ S, K x < K p) (hL : SeenIs m p L) : Ok (S ++ [p]) (addAll m L p) := by
  have hp : p ∉ S := fun k => by have := hK p k; omega
  have hJ := seen_joins h hp hL
  have hin := fun e he => addAll_in (m := m) hJ e he
  have hseen : ∀ {u v : Pt}, (u, v) ∈ L → Outer m u v ∧ D u v p < 0 := fun k => (hL.iff _).1 k
  have inS : ∀ {x}, x ∈ S → x ∈ S ++ [p] := fun k => List.mem_append_left _ k
  have inP : p ∈ S ++ [p] := List.mem_append_right _ (by simp)
  have cases' : ∀ {x}, x ∈ S ++ [p] → x ∈ S ∨ x = p := fun k => by simpa using k
  refine ⟨?_, ?_, ?_, ?_, ?_, ?_⟩
  · intro u v w hm
    rcases addAll_inv hJ hm with ⟨k1, rfl⟩ | ⟨rfl, k2⟩ | ⟨rfl, k2⟩ | ⟨k1, _⟩
    · have k := h.outer_mem (hseen k1).1
      exact ⟨inS k.2.1, inS k.1, inP⟩
    · have k := h.outer_mem (hseen k2).1
      exact ⟨inS k.1, inP, inS k.2.1⟩
    · have k := h.outer_mem (hseen k2).1
      exact ⟨inP, inS k.2.1, inS k.1⟩
    · have k := h.mem _ _ _ k1
      exact ⟨inS k.1, inS k.2.1, inS k.2.2⟩
  · intro u v w hm
    rcases addAll_inv hJ hm with ⟨k1, rfl⟩ | ⟨rfl, k2⟩ | ⟨rfl, k2⟩ | ⟨k1, _⟩
    · have := (hseen k1).2
      rw [D_swap']; omega
    · have := (hseen k2).2
      rw [D_flip]; omega
    · have := (hseen k2).2
      rw [D_turn', D_swap']; omega
    · exact h.pos _ _ _ k1
  · intro u v w hm
    rcases addAll_inv hJ hm with ⟨k1, rfl⟩ | ⟨rfl, k2⟩ | ⟨rfl, k2⟩ | ⟨k1, k2⟩
    · exact (hin _ k1).2.1
    · exact (hin _ k2).2.2
    · exact (hin _ k2).1
    · have k := h.mem _ _ _ k1
      have r := h.rot _ _ _ k1
      have nl : (w, v) ∉ L := fun c => by
        have := (hseen c).1.2
        rw [r] at this; cases this
      rw [addAll_out hJ.off (v, w) nl (fun c => absurd (c ▸ k.2.2) hp) (fun c => absurd (c ▸ k.2.1) hp)]
      exact r
  · intro u v w hm x hx g1 g2 g3
    rcases addAll_inv hJ hm with ⟨k1, rfl⟩ | ⟨rfl, k2⟩ | ⟨rfl, k2⟩ | ⟨k1, _⟩
    · rcases cases' hx with hx | rfl
      · rcases new_empty h (hseen k1).1 (hseen k1).2 hx g1 g2 g3 with e | e
        · exact .inr (.inl e)
        · exact .inl e
      · exact .inr (.inr rfl)
    · rcases cases' hx with hx | rfl
      · rcases new_empty h (hseen k2).1 (hseen k2).2 hx g3 g1 g2 with e | e
        · exact .inl e
        · exact .inr (.inr e)
      · exact .inr (.inl rfl)
    · rcases cases' hx with hx | rfl
      · rcases new_empty h (hseen k2).1 (hseen k2).2 hx g2 g3 g1 with e | e
        · exact .inr (.inr e)
        · exact .inr (.inl e)
      · exact .inl rfl
    · rcases cases' hx with hx | rfl
      · exact h.empty _ _ _ k1 x hx g1 g2 g3
      · have k := h.mem _ _ _ k1
        exact (above_tri (h.pos _ _ _ k1) (hK _ k.1) (hK _ k.2.1) (hK _ k.2.2) g1 g2 g3).elim
  · intro u v w hm hn x hx
    rcases addAll_inv hJ hm with ⟨k1, rfl⟩ | ⟨rfl, k2⟩ | ⟨rfl, k2⟩ | ⟨k1, k2⟩
    · -- the seen side the other way round: it has its triangle
      exfalso
      have k := h.outer_mem (hseen k1).1
      have := isSome_addAll hJ (v, u) (hseen k1).1.1 ⟨fun c => hp (c ▸ k.1), fun c => hp (c ▸ k.2.1)⟩
      rw [hn] at this; cases this
    · -- to the point
      have ho := (hseen k2).1
      have k := h.outer_mem ho
      obtain ⟨kA, kB, _, k4, c, k5, k6, k7⟩ := k
      obtain ⟨t, ht⟩ := h.prev hS ho
      have kt := h.outer_mem ht
      have htp : 0 ≤ D t u v := by
        rcases lt_or_ge' (D t u v) 0 with q | q
        · exfalso
          have : (t, u) ∈ L := (hL.iff _).2 ⟨ht, q⟩
          have := (hin _ this).2.2
          simp only at this
          rw [hn] at this; cases this
        · exact q
      rcases cases' hx with hx | rfl
      · exact tangent_to (k4 x hx) (kt.2.2.2.1 x hx) (hseen k2).2 htp (kt.2.2.2.1 w kB) k7 (kt.2.2.2.1 c k5) kt.2.2.1
      · rw [D_same2]; omega
    · have ho := (hseen k2).1
      have k := h.outer_mem ho
      obtain ⟨kA, kB, _, k4, c, k5, k6, k7⟩ := k
      obtain ⟨t, ht⟩ := h.next hS ho
      have kt := h.outer_mem ht
      have htp : 0 ≤ D v t u := by
        rcases lt_or_ge' (D v t u) 0 with q | q
        · exfalso
          have : (v, t) ∈ L := (hL.iff _).2 ⟨ht, q⟩
          have := (hin _ this).2.1
          simp only at this
          rw [hn] at this; cases this
        · exact q
      rcases cases' hx with hx | rfl
      · exact tangent_from (k4 x hx) (kt.2.2.2.1 x hx) (hseen k2).2 htp (kt.2.2.2.1 w kA) k7 (kt.2.2.2.1 c k5) (fun e => kt.2.2.1 e.symm)
      · rw [D_same1]; omega
    · have k := h.mem _ _ _ k1
      have hno : m (v, u) = none := by
        cases e : m (v, u) with
        | none => rfl
        | some z =>
          have := isSome_addAll (m := m) hJ (v, u) (by rw [e]; rfl) ⟨fun c => hp (c ▸ k.2.1), fun c => hp (c ▸ k.1)⟩
          rw [hn] at this; cases this
      rcases cases' hx with hx | rfl
      · exact h.hull _ _ _ k1 hno x hx
      · rcases lt_or_ge' (D u v x) 0 with q | q
        · exfalso
          have : (u, v) ∈ L := (hL.iff _).2 ⟨⟨by rw [k1]; rfl, hno⟩, q⟩
          have := (hin _ this).1
          simp only at this
          rw [hn] at this; cases this
        · exact q
  · intro u v w hm v' hn
    have hn' := nb_addAll hJ hL hn
    rcases addAll_inv hJ hm with ⟨k1, rfl⟩ | ⟨rfl, k2⟩ | ⟨rfl, k2⟩ | ⟨k1, _⟩
    · -- (e1, e0, p) at e1: u = e1, v = e0
      have k := h.outer_mem (hseen k1).1
      rintro ⟨q1, q2⟩
      rcases hn' with q | ⟨q, _⟩ | ⟨q, _⟩
      · have := k.2.2.2.1 v' (nb_mem h q).1
        rw [D_swap'] at q1; omega
      · rw [q, D_same2] at q2; omega
      · exact hp (q ▸ k.2.1)
    · have k := h.outer_mem (hseen k2).1
      rintro ⟨q1, q2⟩
      rcases hn' with q | ⟨q, _⟩ | ⟨q, _⟩
      · have := k.2.2.2.1 v' (nb_mem h q).1
        rw [D_flip] at q2; omega
      · rw [q, D_same2] at q1; omega
      · exact hp (q ▸ k.1)
    · -- at p: (p, e1, e0): v = e1, w = e0
      have k := h.outer_mem (hseen k2).1
      rintro ⟨q1, q2⟩
      rcases hn' with q | ⟨q, _⟩ | ⟨_, f, hf, q⟩
      · have := (nb_mem h q)
        rcases q with q | q
        · obtain ⟨z, e⟩ := isSome_get q
          exact hp (h.mem _ _ _ e).1
        · obtain ⟨z, e⟩ := isSome_get q
          exact hp (h.mem _ _ _ e).2.1
      · rw [q, D_same1] at q1; omega
      · have hf' := hseen hf
        have kf := h.outer_mem hf'.1
        have l0 : D f.1 f.2 v' = 0 := by
          rcases q with q | q
          · rw [q, D_same1]
          · rw [q, D_same2]
        have vS : v' ∈ S := by
          rcases q with q | q
          · rw [q]; exact kf.1
          · rw [q]; exact kf.2.1
        have e := D_split u v w f.1 f.2 v'
        rw [l0, Int.mul_zero] at e
        have le0 := kf.2.2.2.1 w k.1
        have le1 := kf.2.2.2.1 v k.2.1
        have lp := hf'.2
        have h1 : 0 ≤ D w v v' := k.2.2.2.1 v' vS
        have h2 : D v w v' = -D w v v' := D_swap' w v v'
        have h3 : D w u v' = D u v' w := by have := D_turn' u v' w; have := D_turn w u v'; omega
        rw [h2, h3] at e
        have p1 := mul_nn h1 (show 0 ≤ -D f.1 f.2 u by omega)
        have p2 := mul_nn (Int.le_of_lt q2) le1
        have p3 := mul_nn (Int.le_of_lt q1) le0
        have e' : 0 = D w v v' * -D f.1 f.2 u + D u v' w * D f.1 f.2 v + D u v v' * D f.1 f.2 w := by grind
        have z1 : D w v v' * -D f.1 f.2 u = 0 := by omega
        have z2 : D w v v' = 0 := by rw [Int.mul_comm] at z1; exact mul_eq_zero' z1 (by omega)
        have g2 : 0 ≤ D w u v' := by omega
        rcases new_empty h (hseen k2).1 (hseen k2).2 vS (by omega) g2 (by omega) with c | c
        · rw [c, D_same2] at q2; omega
        · rw [c, D_same2] at q1; omega
    · have km := h.mem _ _ _ k1
      rcases hn' with q | ⟨rfl, f, hf, q⟩ | ⟨q, _⟩
      · exact h.fan _ _ _ k1 v' q
      · rintro ⟨q1, q2⟩
        have hf' := hseen hf
        have kf := h.outer_mem hf'.1
        have l0 : D f.1 f.2 u = 0 := by
          rcases q with q | q
          · rw [q, D_same1]
          · rw [q, D_same2]
        have e := D_split u v w f.1 f.2 v'
        rw [l0, Int.mul_zero, Int.zero_add] at e
        have h3 : D w u v' = D u v' w := by have := D_turn w u v'; omega
        rw [h3] at e
        have p1 := mul_nn (Int.le_of_lt q2) (kf.2.2.2.1 v km.2.1)
        have p2 := mul_nn (Int.le_of_lt q1) (kf.2.2.2.1 w km.2.2)
        have := Int.mul_pos (h.pos _ _ _ k1) (show 0 < -D f.1 f.2 v' by have := hf'.2; omega)
        have e2 : D u v w * -D f.1 f.2 v' = -(D u v w * D f.1 f.2 v') := by grind
        omega
      · exact absurd (q ▸ km.1) hp

/-- Each point is a corner. -/
def Corners (S : List Pt) (m : Ms) : Prop := ∀ x ∈ S, ∃ y, (m (x, y)).isSome = true

/-- The next point sees something. -/
theorem sees (h : Ok S m) (hS : S.Nodup) (hc : Corners S m) {q : Pt} (hq : q ∈ S) (hmax : ∀ x ∈ S, x = q ∨ K x < K q) (hp : K q < K p) : ∃ e, SeenBy m p e := by
  obtain ⟨y0, hy0⟩ := hc q hq
  let A := S.filter fun w => (m (q, w)).isSome
  have hA : ∀ {w}, (m (q, w)).isSome = true → w ∈ A := fun {w} hw => by
    obtain ⟨z, e⟩ := isSome_get hw
    exact List.mem_filter.2 ⟨(h.mem _ _ _ e).2.1, hw⟩
  have hlt : ∀ {w z : Pt}, m (q, w) = some z → K w < K q := fun {w z} e => by
    rcases hmax w (h.mem _ _ _ e).2.1 with k | k
    · have := h.pos _ _ _ e; rw [k, D_same0] at this; omega
    · exact k
  obtain ⟨w, hw, hmin⟩ := minRatio (fun x : Pt => -(x.2 - q.2)) (fun x : Pt => K q - K x) A (fun x hx => by
    obtain ⟨z, e⟩ := isSome_get (List.mem_filter.1 hx).2
    have := hlt e
    show 0 < K q - K x
    omega) (List.ne_nil_of_mem (hA hy0))
  have hge : ∀ w' ∈ A, 0 ≤ D q w w' := fun w' hw' => by
    have this : -(w.2 - q.2) * (K q - K w') ≤ -(w'.2 - q.2) * (K q - K w) := hmin w' hw'
    have e := K_slope q w w'
    have : 0 ≤ 36028797018963968 * D q w w' := by rw [e]; grind
    omega
  obtain ⟨c, ec⟩ := isSome_get (List.mem_filter.1 hw).2
  have ho : Outer m q w := by
    refine ⟨by rw [ec]; rfl, ?_⟩
    cases e : m (w, q) with
    | none => rfl
    | some z =>
      exfalso
      have r := h.rot _ _ _ e
      have := hge z (hA (by rw [r]; rfl))
      have p1 := h.pos _ _ _ e
      rw [D_swap'] at p1
      omega
  obtain ⟨w', ho'⟩ := h.prev hS ho
  have k := h.outer_mem ho
  have k' := h.outer_mem ho'
  rcases lt_or_ge' (D q w p) 0 with g1 | g1
  · exact ⟨(q, w), ho, g1⟩
  · rcases lt_or_ge' (D w' q p) 0 with g2 | g2
    · exact ⟨(w', q), ho', g2⟩
    · exfalso
      have kw : K w < K q := hlt ec
      have kw' : K w' < K q := by
        rcases hmax w' k'.1 with c | c
        · exact absurd c k'.2.2.1
        · exact c
      have e := K_four q w w' p
      have t1 : D q p w' = D w' q p := by have := D_turn w' q p; omega
      rw [t1] at e
      have a1 := mul_np g2 (show K w - K q ≤ 0 by omega)
      have a2 := mul_np g1 (show K w' - K q ≤ 0 by omega)
      have a3 : 0 ≤ D q w w' := k.2.2.2.1 w' k'.1
      have a4 : D q w w' = 0 := by
        rcases Int.lt_or_eq_of_le a3 with c | c
        · have := Int.mul_pos c (show 0 < K p - K q by omega); omega
        · exact c.symm
      have al := K_along (z := c) a4
      have p1 := h.pos _ _ _ ec
      have p2 := k'.2.2.2.1 c (h.mem _ _ _ ec).2.2
      have t2 : D w' q c = -D q w' c := D_swap' q w' c
      have b1 := Int.mul_pos p1 (show 0 < -(K w' - K q) by omega)
      have b2 := mul_nn (show 0 ≤ -D q w' c by omega) (show 0 ≤ -(K w - K q) by omega)
      have e1 : D q w c * -(K w' - K q) = -(D q w c * (K w' - K q)) := by grind
      have e2 : -D q w' c * -(K w - K q) = D q w' c * (K w - K q) := by grind
      omega

theorem sweep_corners (h : Ok S m) (hS : S.Nodup) (hK : ∀ x ∈ S, K x < K p) (hL : SeenIs m p L) (hc : Corners S m) {q : Pt} (hq : q ∈ S) (hmax : ∀ x ∈ S, x = q ∨ K x < K q) : Corners (S ++ [p]) (addAll m L p) := by
  have hp : p ∉ S := fun k => by have := hK p k; omega
  have hJ := seen_joins h hp hL
  intro x hx
  rcases List.mem_append.1 hx with hx | hx
  · obtain ⟨y, hy⟩ := hc x hx
    obtain ⟨z, e⟩ := isSome_get hy
    exact ⟨y, isSome_addAll hJ (x, y) hy ⟨fun c => hp (c ▸ hx), fun c => hp (c ▸ (h.mem _ _ _ e).2.1)⟩⟩
  · have : x = p := by simpa using hx
    subst this
    obtain ⟨e, he⟩ := sees h hS hc hq hmax (hK q hq)
    exact ⟨e.2, by rw [(addAll_in (m := m) hJ e ((hL.iff e).2 he)).2.2]; rfl⟩

theorem flip_corners {a b l r : Pt} (h : Ok S m) (hl : m (a, b) = some l) (hr : m (b, a) = some r) (hc : 0 < C a b l r) (hco : Corners S m) : Corners S (flipM m a b l r) := by
  have ha := apart_of (h.pos _ _ _ hl) (h.pos _ _ _ hr) hc
  have hs := flip_some ha h hl hr
  intro x hx
  by_cases h1 : x = a
  · exact ⟨r, (hs _).2 (.inr ⟨by rw [h1, h.rot _ _ _ hr]; rfl, by rw [h1]; intro k; injection k with _ k; exact ha.br k.symm, by rw [h1]; intro k; injection k with k _; exact ha.ab k⟩)⟩
  · by_cases h2 : x = b
    · exact ⟨l, (hs _).2 (.inr ⟨by rw [h2, h.rot _ _ _ hl]; rfl, by rw [h2]; intro k; injection k with k _; exact ha.ab k.symm, by rw [h2]; intro k; injection k with _ k; exact ha.al k.symm⟩)⟩
    · obtain ⟨y, hy⟩ := hco x hx
      exact ⟨y, (hs _).2 (.inr ⟨hy, fun k => h1 (by injection k), fun k => h2 (by injection k)⟩)⟩
theorem step_corners {s : St} (h : Inv S s) (hc : Corners S s.1) : Corners S (step s).1 := by
  obtain ⟨m, o⟩ := s
  rcases last_cases o with rfl | ⟨o', ⟨a, b⟩, rfl⟩
  · exact hc
  · cases hw : wrong m (a, b) with
    | false => rw [step_keep hw]; exact hc
    | true =>
      obtain ⟨l, r, h1, h2, hcc⟩ := wrong_inv hw
      rw [step_flip h1 h2 hcc]; exact flip_corners h.ok h1 h2 hcc hc
theorem steps_corners {s : St} (h : Inv S s) (hc : Corners S s.1) (n : Nat) : Corners S (steps n s).1 := by
  induction n with
  | zero => exact hc
  | succ n ih => exact step_corners (steps_inv h n) ih
end

end Go.Proofs.YtgeoffpcmkofkaaGreat
