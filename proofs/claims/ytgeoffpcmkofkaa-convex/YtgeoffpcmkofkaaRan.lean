/- Qb; Qc: texts laid into one. -/
import Derived.Test.YtgeoffpcmkofkaaRam
import Derived.Deep.RegionHeld3
import Derived.Lib.AppendZeros
/- The walks of 'Clone' and 'Compact' of package slices, at points. -/
namespace Go.Proofs.Ytgeoffpcmkofkaa
open Go.RowKit Fl
set_option maxRecDepth 100000
attribute [local go_sem ↓] Go.wp_at_zero Go.wp_at_succ

theorem New.dr {w w1 : World} (h : New w w1) : New w w1.drew := ⟨h.os, h.tape, h.output, h.size, h.block⟩
theorem zero23 (w : World) : (zeroValue 23).run Try.prog w = .ok (.agg #[.int .i64 0, .int .i64 0]) w := by kernel_rfl
set_option maxHeartbeats 800000 in
theorem clone_nil (w : World) : Calls Try.prog 100 #[.slice none 0 0] w fun e w' => e = .returned (.slice none 0 0) ∧ Hid (New w w') := by
  have h := eq_nil_none w
  go_enter Try.func100, Try.ntmps100
  go_wp2_with fail
  go_ret
  exact ⟨rfl, New.refl _⟩

set_option maxHeartbeats 800000 in
theorem clone_some (g off cap : Nat) (l : Pts) (w : World) (hp : PtsAt w g off l) (hl : l.length ≤ 1000000) :
    Calls Try.prog 100 #[.slice (some ⟨g, off, none⟩) l.length cap] w fun e w' => ∃ v, e = .returned v ∧ v ≠ .slice none 0 0 ∧ Hid (New w w' ∧ OwnP w' w.heap.size v l) := by
  have h := eq_nil_some ⟨g, off, none⟩ l.length cap w
  have HP : Hid (PtsAt w g off l) := hp
  clear hp
  obtain ⟨i0, hi0, hz0, hz1, hz2⟩ := info_parts Try.info23
  have hown : Hid ((w.alloc (.cells #[] 23)).ownsRow w.heap.size 23 2 (.slice (some ⟨w.heap.size, 0, none⟩) 0 0) 0 []) := World.ownsRow_lit w #[] 0 (Nat.le_refl _) (by unfold maxLen; omega) (by simp)
  obtain ⟨vk, wk, k1, k2, k3, k4⟩ := run_append_own (P := Try.prog) (w.alloc (.cells #[] 23)) w.heap.size 28 28 23 i0 _ 2 16 Try.underlying28 hi0 hz0 hz1 hz2 rfl (by omega) _ 0 [] hown.out ⟨g, off, none⟩ l.length cap (l.flatMap encP) (flat_length lenP l)
    (fun j u hu => by rw [← flatP_eq] at hu; exact (New.alloc w _).kept' (pts_cells HP.out j u hu)) (encP_one l) (by unfold maxLen; omega) (by omega) (by simp)
  rw [Nat.zero_add, List.nil_append] at k2
  have HK : Hid (wk.ownsRow w.heap.size 23 2 vk l.length (l.flatMap encP) ∧ (w.alloc (.cells #[] 23)).grownBy wk (some w.heap.size) ∧ vk ≠ .slice none 0 0) := ⟨k2, k3, fun e => by have := (k4.1 e).1; simp at this⟩
  clear k2 k3 k4 hown hi0 hz0 hz1 hz2
  go_enter Try.func100, Try.ntmps100
  go_wp2_with (first | (at_builtin; refine Go.Lib.wpList_append_run _ rfl _ _ 28 28 rfl _ _ rfl rfl vk wk k1 ?_) | go_in)
  go_ret
  refine ⟨vk, rfl, HK.out.2.2, ?_, HK.out.1⟩
  have h1 := HK.out.2.1
  exact ⟨h1.os, h1.tape, h1.output, by have := h1.size; simp at this; omega, fun k hk _ => (h1.block k (by simp; omega) (by simp; omega)).trans ((New.alloc w _).block k hk (by simp))⟩

end Go.Proofs.Ytgeoffpcmkofkaa
/- The walk of 'Compact' of package slices, at points. -/
namespace Go.Proofs.Ytgeoffpcmkofkaa
open Go.RowKit Fl
set_option maxRecDepth 100000
attribute [local go_sem ↓] Go.wp_at_zero Go.wp_at_succ

/-- The first k of them, without those that are as the one ahead. -/
def ddN (l : Pts) : Nat → Pts
  | 0 => []
  | k + 1 => match l[k]? with
    | none => ddN l k
    | some p => if 0 < k ∧ l[k - 1]? = some p then ddN l k else ddN l k ++ [p]
theorem ddN_same {l : Pts} {k : Nat} {p : Pt} (h : l[k]? = some p) (h0 : 0 < k) (h1 : l[k - 1]? = some p) : ddN l (k + 1) = ddN l k := by
  simp only [ddN, h]; rw [if_pos ⟨h0, h1⟩]
theorem ddN_other {l : Pts} {k : Nat} {p : Pt} (h : l[k]? = some p) (h1 : 0 < k → l[k - 1]? ≠ some p) : ddN l (k + 1) = ddN l k ++ [p] := by
  simp only [ddN, h]; rw [if_neg (fun c => h1 c.1 c.2)]
theorem ddN_le (l : Pts) : ∀ k, (ddN l k).length ≤ k
  | 0 => by simp [ddN]
  | k + 1 => by
    have := ddN_le l k
    unfold ddN
    split
    · omega
    · split
      · omega
      · simp; omega

theorem ddN_take {l : Pts} {k : Nat} {p q : Pt} (hp : l[k]? = some p) (hq : l[k + 1]? = some q) (hne : q ≠ p) (h : ddN l (k + 1) = l.take (k + 1)) : ddN l (k + 1 + 1) = l.take (k + 1 + 1) := by
  rw [ddN_other hq (fun _ => by simp [hp]; exact fun c => hne c.symm), h, List.take_add_one (i := k + 1), hq]
  rfl
theorem ddN_one {l : Pts} (h : 0 < l.length) : ddN l 1 = l.take 1 := by
  have e : l[0]? = some l[0] := List.getElem?_eq_getElem h
  rw [ddN_other e (fun c => by omega)]
  cases l with
  | nil => simp at h
  | cons a l => simp [ddN]
theorem ddN_short {l : Pts} (h : l.length < 2) : ddN l l.length = l := by
  match l, h with
  | [], _ => rfl
  | [a], _ => rfl

/-- A shorter row. -/
theorem own_shrink {w : World} {base e size g n cap c : Nat} {xs : List Value} (h : w.ownsRow base e size (.slice (some ⟨g, 0, none⟩) n cap) n xs) (hc : c ≤ n) : w.ownsRow base e size (.slice (some ⟨g, 0, none⟩) c cap) c (xs.take (c * size)) := by
  rcases h.2 with ⟨h', _⟩ | ⟨g', cap', cur, h', hb, hg, h3, h4, h5, h6⟩
  · simp at h'
  · simp only [Value.slice.injEq, Option.some.injEq, Addr.mk.injEq, and_true, true_and] at h'
    obtain ⟨rfl, rfl⟩ := h'
    have hle : c * size ≤ n * size := Nat.mul_le_mul_right _ hc
    refine ⟨by rw [List.length_take, h.1]; omega, .inr ⟨g, cap, cur, rfl, hb, hg, by omega, h4, h5, ?_⟩⟩
    rw [← h6, List.take_take, Nat.min_eq_left hle]
/-- Writes behind its head. -/
theorem own_behind {base e size g n cap : Nat} : ∀ (vs : List Value) (o : Nat) {w : World} {xs : List Value}, w.ownsRow base e size (.slice (some ⟨g, 0, none⟩) n cap) n xs →
    ∃ ys, (w.setCells g o vs).ownsRow base e size (.slice (some ⟨g, 0, none⟩) n cap) n ys ∧ ys.take o = xs.take o ∧ w.grownBy (w.setCells g o vs) (some g)
  | [], o, w, xs, h => ⟨xs, h, rfl, ⟨rfl, rfl, rfl, Nat.le_refl _, fun _ _ _ => rfl⟩⟩
  | v :: vs, o, w, xs, h => by
    have s := World.ownsRow.stored h o v
    obtain ⟨ys, h1, h2, h3⟩ := own_behind vs (o + 1) s.1
    refine ⟨ys, h1, ?_, s.2.trans h3⟩
    have e1 : ys.take o = (ys.take (o + 1)).take o := by rw [List.take_take]; congr 1; omega
    rw [e1, h2, List.take_take, Nat.min_eq_left (by omega), List.take_set_of_le (Nat.le_refl _)]
theorem clear_pairs (w : World) (ty b o n c : Nat) (hn : 0 < n) (hc : ∀ j, j < n * 2 → (w.cell? ⟨b, o + j, none⟩).isSome = true) (hf : ∀ j, j < n * 2 → w.frozen? ⟨b, o + j, none⟩ = false) :
    (Builtin.clear_ #[28] ty #[.slice (some ⟨b, o, none⟩) n c]).run Try.prog w = .ok (.tuple #[]) (w.setCells b o (List.replicate (n * 2) (.int .i64 0))) := by
  have hzc : (Builtin.zeroCells #[.int .i64 0, .int .i64 0] n).toList = List.replicate (n * 2) (.int .i64 0) := by
    apply List.ext_getElem
    · simp [Builtin.zeroCells]
    · intro i h1 h2
      simp [Builtin.zeroCells]
      rcases Nat.mod_two_eq_zero_or_one i with k | k <;> rw [k] <;> rfl
  have hst := run_storeCells_cells (P := Try.prog) b o (List.replicate (n * 2) (.int .i64 0)) 0 w (by simpa using hc) (by simpa using hf) (by intro v hv'; rw [List.eq_of_mem_replicate hv']; rfl)
  simp only [Nat.add_zero] at hst
  obtain ⟨m, rfl⟩ : ∃ m, n = m + 1 := ⟨n - 1, by omega⟩
  have hv := zero23 w
  simp [Builtin.clear_, run_underlying Try.underlying28, hv, Value.cells, hzc, hst]

/-- Where the inner loop stands. -/
structure InC (w wr : World) (base g cap : Nat) (l : Pts) (k c m : Nat) (cur : Pts) : Prop where
  gr : w.grownBy wr (some g)
  len : cur.length = l.length
  own : OwnP wr base (.slice (some ⟨g, 0, none⟩) cur.length cap) cur
  pre : cur.take c = ddN l (k + m)
  cnt : c = (ddN l (k + m)).length
  tail : ∀ i, k + m ≤ i + 1 → cur[i]? = l[i]?
theorem InC.skip {w wr wx : World} {base g cap : Nat} {l : Pts} {k c m : Nat} {cur : Pts} (h : InC w wr base g cap l k c m cur) (hn : New wr wx) {p : Pt} (h0 : 0 < k + m) (h1 : l[k + m]? = some p) (h2 : l[k + m - 1]? = some p) : InC w wx base g cap l k c (m + 1) cur := by
  have e := ddN_same h1 h0 h2
  exact ⟨h.gr.trans (hn.but (some g)), h.len, h.own.new hn, by rw [← Nat.add_assoc, e]; exact h.pre, by rw [← Nat.add_assoc, e]; exact h.cnt, fun i hi => h.tail i (by omega)⟩
theorem InC.put {w wr wx : World} {base g cap : Nat} {l : Pts} {k c m : Nat} {cur : Pts} (h : InC w wr base g cap l k c m cur) (hn : New wr wx) {p : Pt} (h1 : l[k + m]? = some p) (h2 : l[k + m - 1]? ≠ some p) (hc : c + 1 ≤ k + m) :
    InC w ((wx.setCell ⟨g, c * 2, none⟩ (.int .i64 p.1)).setCell ⟨g, c * 2 + 1, none⟩ (.int .i64 p.2)) base g cap l k (c + 1) (m + 1) (cur.set c p) := by
  have hlt : k + m < l.length := (List.getElem?_eq_some_iff.1 h1).1
  have hcl : c < cur.length := by rw [h.len]; omega
  have s := (h.own.new hn).set hcl p
  have e := ddN_other h1 (fun _ => h2)
  refine ⟨(h.gr.trans (hn.but (some g))).trans s.2, by rw [List.length_set]; exact h.len, by rw [List.length_set]; exact s.1, ?_, ?_, fun i hi => ?_⟩
  · rw [← Nat.add_assoc, e, ← h.pre, List.take_add_one]
    simp [hcl, List.take_set_of_le]
  · rw [← Nat.add_assoc, e, List.length_append, ← h.cnt]; rfl
  · rw [List.getElem?_set_ne (by omega)]; exact h.tail i (by omega)

set_option maxHeartbeats 3200000 in
theorem compact_some (base g cap : Nat) (l : Pts) (w : World) (h : OwnP w base (.slice (some ⟨g, 0, none⟩) l.length cap) l) (hl : l.length ≤ 1000000) (hcap : l.length ≤ cap) :
    Calls Try.prog 102 #[.slice (some ⟨g, 0, none⟩) l.length cap] w fun e w' => e = .returned (.slice (some ⟨g, 0, none⟩) (ddN l l.length).length cap) ∧ Hid (w.grownBy w' (some g) ∧ OwnP w' base (.slice (some ⟨g, 0, none⟩) (ddN l l.length).length cap) (ddN l l.length)) := by
  have H : Hid (OwnP w base (.slice (some ⟨g, 0, none⟩) l.length cap) l) := h
  clear h
  go_enter Try.func102, Try.ntmps102
  by_cases h2 : l.length < 2
  · have HD : Hid (ddN l l.length = l) := ddN_short h2
    have h2' : (l.length : Int) < 2 := by omega
    go_wp2_with fail
    go_ret
    rw [HD.out]
    exact ⟨rfl, ⟨rfl, rfl, rfl, Nat.le_refl _, fun _ _ _ => rfl⟩, H.out⟩
  · go_wp2_with fail
    go_loopw [3] (fun v3 wr => ∃ k : Nat, v3 = .int .i64 (k : Int) ∧ 1 ≤ k ∧ k ≤ l.length ∧ Hid (New w wr ∧ ddN l k = l.take k)) (fun v3 _ => l.length - (intOf v3).toNat)
    case atStart => exact ⟨1, rfl, by omega, by omega, New.refl _, ddN_one (by omega)⟩
    case round =>
      obtain ⟨k, rfl, hk1, hk2, HR⟩ := hrel
      rcases Nat.lt_or_ge k l.length with hk | hk
      · have HO : Hid (OwnP wr base (.slice (some ⟨g, 0, none⟩) l.length cap) l) := H.out.new HR.out.1
        obtain ⟨j, hj⟩ : ∃ j, k = j + 1 := ⟨k - 1, by omega⟩
        obtain ⟨x0, x1⟩ := HO.out.cell (show j < l.length by omega)
        obtain ⟨y0, y1⟩ := HO.out.cell hk
        obtain ⟨p, hp⟩ : ∃ p, p = l[j]'(by omega) := ⟨_, rfl⟩
        obtain ⟨q, hq⟩ : ∃ q, q = l[k] := ⟨_, rfl⟩
        rw [← hp] at x0 x1
        rw [← hq] at y0 y1
        have HPQ : Hid (l[j]? = some p ∧ l[k]? = some q ∧ k = j + 1) := ⟨by rw [hp]; exact List.getElem?_eq_getElem _, by rw [hq]; exact List.getElem?_eq_getElem hk, hj⟩
        clear hp hq
        have hw : IntKind.i64.wrap ((k : Int) - 1) = (j : Int) := by rw [IntKind.wrap_i64]; omega
        have i0 : (0 : Int) ≤ (k : Int) := by omega
        have i1 : (k : Int) < (l.length : Int) := by omega
        have i2 : (0 : Int) ≤ (j : Int) := by omega
        have i3 : (j : Int) < (l.length : Int) := by omega
        clear hj
        go_wp2_with fail
        by_cases hpq : q = p
        · subst hpq
          go_region_held3 (fun W => W.cell? ⟨g, j * 2, none⟩ = some (.int .i64 q.1) ∧ W.cell? ⟨g, j * 2 + 1, none⟩ = some (.int .i64 q.2) ∧ W.cell? ⟨g, k * 2, none⟩ = some (.int .i64 q.1) ∧ W.cell? ⟨g, k * 2 + 1, none⟩ = some (.int .i64 q.2))
            (go_keep) (first | fail)
          clear x0 x1 y0 y1
          have HI : Hid (InC w wr.drew base g cap l k k 1 l) := by
            have e := ddN_same HPQ.out.2.1 (by omega) (show l[k - 1]? = some q by rw [HPQ.out.2.2, Nat.add_sub_cancel]; exact HPQ.out.1)
            exact ⟨(HR.out.1.dr).but (some g), rfl, HO.out.new (New.refl wr).dr, by rw [e]; exact HR.out.2.symm, by rw [e, HR.out.2, List.length_take]; omega, fun _ _ => rfl⟩
          clear HR HO HPQ hw i2 i3
          generalize wr = ws at *
          go_wp2_with fail
          go_loopw [3, 5] (fun v3 v5 wr => ∃ (c m : Nat) (cur : Pts), v3 = .int .i64 (c : Int) ∧ v5 = .int .i64 (m : Int) ∧ 1 ≤ m ∧ m ≤ l.length - k ∧ c + 1 ≤ k + m ∧ Hid (InC w wr base g cap l k c m cur)) (fun _ v5 _ => l.length - k - (intOf v5).toNat)
          case atStart => exact ⟨k, 1, l, rfl, rfl, by omega, by omega, by omega, HI⟩
          case round =>
            obtain ⟨c, m, cur, rfl, rfl, hm1, hm2, hc, HJ⟩ := hrel
            have i4 : (0 : Int) ≤ (c : Int) := by omega
            have i5 : (c : Int) < (l.length : Int) := by omega
            rcases Nat.lt_or_ge m (l.length - k) with hm | hm
            · obtain ⟨r, hr⟩ : ∃ r, m = r + 1 := ⟨m - 1, by omega⟩
              have hlen := HJ.out.len
              have t1 := HJ.out.tail (k + m) (by omega)
              have t2 := HJ.out.tail (k + r) (by omega)
              obtain ⟨y0, y1⟩ := HJ.out.own.cell (show k + m < cur.length by omega)
              obtain ⟨x0, x1⟩ := HJ.out.own.cell (show k + r < cur.length by omega)
              obtain ⟨p, hp⟩ : ∃ p, p = cur[k + r]'(by omega) := ⟨_, rfl⟩
              obtain ⟨q, hq⟩ : ∃ q, q = cur[k + m]'(by omega) := ⟨_, rfl⟩
              rw [← hp] at x0 x1
              rw [← hq] at y0 y1
              have HPQ : Hid (l[k + m - 1]? = some p ∧ l[k + m]? = some q ∧ 0 < k + m) := ⟨by rw [show k + m - 1 = k + r by omega, ← t2, hp]; exact List.getElem?_eq_getElem _, by rw [← t1, hq]; exact List.getElem?_eq_getElem _, by omega⟩
              rw [Nat.add_mul] at x0 x1 y0 y1
              have hw : IntKind.i64.wrap ((m : Int) - 1) = (r : Int) := by rw [IntKind.wrap_i64]; omega
              have hw1 : IntKind.i64.wrap ((m : Int) + 1) = (m : Int) + 1 := by rw [IntKind.wrap_i64]; omega
              have hw2 : IntKind.i64.wrap ((c : Int) + 1) = (c : Int) + 1 := by rw [IntKind.wrap_i64]; omega
              have j0 : (0 : Int) ≤ (m : Int) := by omega
              have j1 : (m : Int) < (l.length : Int) - (k : Int) := by omega
              have j2 : (0 : Int) ≤ (r : Int) := by omega
              have j3 : (r : Int) < (l.length : Int) - (k : Int) := by omega
              have j4 : (m : Int) < ((l.length - k : Nat) : Int) := by omega
              have j5 : (r : Int) < ((l.length - k : Nat) : Int) := by omega
              obtain ⟨s0, s1⟩ := HJ.out.own.cell (show c < cur.length by omega)
              obtain ⟨z, hz⟩ : ∃ z, z = cur[c]'(by omega) := ⟨_, rfl⟩
              rw [← hz] at s0 s1
              have f0 := World.ownsRow.frozenAt HJ.out.own (c * 2)
              have f1 := World.ownsRow.frozenAt HJ.out.own (c * 2 + 1)
              clear hp hq t1 t2 hr hz
              go_wp2_with fail
              by_cases hpq : q = p
              · subst hpq
                go_region_held3 (fun W => W.cell? ⟨g, k * 2 + r * 2, none⟩ = some (.int .i64 q.1) ∧ W.cell? ⟨g, k * 2 + r * 2 + 1, none⟩ = some (.int .i64 q.2) ∧ W.cell? ⟨g, k * 2 + m * 2, none⟩ = some (.int .i64 q.1) ∧ W.cell? ⟨g, k * 2 + m * 2 + 1, none⟩ = some (.int .i64 q.2))
                  (go_keep) (first | fail)
                have HN : Hid (InC w wr.drew base g cap l k c (m + 1) cur) := HJ.out.skip (New.refl wr).dr HPQ.out.2.2 HPQ.out.2.1 HPQ.out.1
                clear x0 x1 y0 y1 s0 s1 f0 f1
                go_wp2_with fail
                go_roundw
                case rel => exact ⟨c, m + 1, cur, rfl, by go_num, by omega, by omega, by omega, HN⟩
                case measure => simp [intOf]; omega
              · have HN : Hid (InC w ((wr.drew.setCell ⟨g, c * 2, none⟩ (.int .i64 q.1)).setCell ⟨g, c * 2 + 1, none⟩ (.int .i64 q.2)) base g cap l k (c + 1) (m + 1) (cur.set c q)) := HJ.out.put (New.refl wr).dr HPQ.out.2.1 (by rw [HPQ.out.1]; simp; exact fun c => hpq c.symm) hc
                have hne : ¬(q.1 = p.1 ∧ q.2 = p.2) := fun k => hpq (pt_ext k.1 k.2)
                by_cases h1 : q.1 = p.1
                · have h2 : ¬q.2 = p.2 := fun k => hne ⟨h1, k⟩
                  go_region_held3 (fun W => W.cell? ⟨g, k * 2 + r * 2, none⟩ = some (.int .i64 p.1) ∧ W.cell? ⟨g, k * 2 + r * 2 + 1, none⟩ = some (.int .i64 p.2) ∧ W.cell? ⟨g, k * 2 + m * 2, none⟩ = some (.int .i64 q.1) ∧ W.cell? ⟨g, k * 2 + m * 2 + 1, none⟩ = some (.int .i64 q.2))
                    (go_keep) (first | fail)
                  go_wp2_with fail
                  go_roundw
                  case rel => exact ⟨c + 1, m + 1, cur.set c q, by go_num, by go_num, by omega, by omega, by omega, by have t := HN.out; rw [h1] at t; exact t⟩
                  case measure => simp [intOf]; omega
                · go_region_held3 (fun W => W.cell? ⟨g, k * 2 + r * 2, none⟩ = some (.int .i64 p.1) ∧ W.cell? ⟨g, k * 2 + r * 2 + 1, none⟩ = some (.int .i64 p.2) ∧ W.cell? ⟨g, k * 2 + m * 2, none⟩ = some (.int .i64 q.1) ∧ W.cell? ⟨g, k * 2 + m * 2 + 1, none⟩ = some (.int .i64 q.2))
                    (go_keep) (first | fail)
                  go_wp2_with fail
                  go_roundw
                  case rel => exact ⟨c + 1, m + 1, cur.set c q, by go_num, by go_num, by omega, by omega, by omega, HN⟩
                  case measure => simp [intOf]; omega
            · have hme : m = l.length - k := by omega
              have hcn : c < l.length := by omega
              have hlen := HJ.out.len
              have HCL : Hid (∀ ty, (Builtin.clear_ #[28] ty #[.slice (some ⟨g, c * 2, none⟩) (l.length - c) (cap - c)]).run Try.prog wr = .ok (.tuple #[]) (wr.setCells g (c * 2) (List.replicate ((l.length - c) * 2) (.int .i64 0)))) := fun ty => by
                refine clear_pairs wr ty g (c * 2) (l.length - c) (cap - c) (by omega) (fun j hj => ?_) (fun j _ => World.ownsRow.frozenAt HJ.out.own _)
                rw [World.ownsRow.cellAt HJ.out.own (c * 2 + j) (by omega), List.getElem?_eq_getElem (by rw [flat_length lenP]; omega)]
                rfl
              have HF : Hid (w.grownBy (wr.setCells g (c * 2) (List.replicate ((l.length - c) * 2) (.int .i64 0))) (some g) ∧ OwnP (wr.setCells g (c * 2) (List.replicate ((l.length - c) * 2) (.int .i64 0))) base (.slice (some ⟨g, 0, none⟩) (ddN l l.length).length cap) (ddN l l.length) ∧ (ddN l l.length).length = c) := by
                have e : k + m = l.length := by omega
                have hp := HJ.out.pre
                have hcn := HJ.out.cnt
                rw [e] at hp hcn
                obtain ⟨ys, h1, h2, h3⟩ := own_behind (List.replicate ((l.length - c) * 2) (.int .i64 0)) (c * 2) HJ.out.own
                refine ⟨HJ.out.gr.trans h3, ?_, hcn.symm⟩
                have := own_shrink h1 (show c ≤ cur.length by omega)
                rw [h2] at this
                unfold OwnP
                rw [← hcn, ← hp]
                have e2 : (cur.flatMap encP).take (c * 2) = (cur.take c).flatMap encP := by
                  have e3 := congrArg (fun l => l.flatMap encP) (List.take_append_drop c cur)
                  simp only [List.flatMap_append] at e3
                  rw [← e3, List.take_append_of_le_length (by rw [flat_length lenP, List.length_take]; omega), List.take_of_length_le (by rw [flat_length lenP, List.length_take]; omega)]
                rw [← e2]
                exact this
              have hcl := HCL.out
              clear HCL HI hme
              go_wp2_with fail
              go_ret
              exact ⟨by rw [HF.out.2.2]; rfl, HF.out.1, HF.out.2.1⟩
        · have HN : Hid (ddN l (k + 1) = l.take (k + 1)) := by
            have e := HPQ.out.2.2
            have h1 := HPQ.out.2.1
            have h2 := HR.out.2
            rw [e] at h1 h2 ⊢
            exact ddN_take HPQ.out.1 h1 hpq h2
          have hw1 : IntKind.i64.wrap ((k : Int) + 1) = (k : Int) + 1 := by rw [IntKind.wrap_i64]; omega
          have hne : ¬(q.1 = p.1 ∧ q.2 = p.2) := fun k => hpq (pt_ext k.1 k.2)
          by_cases h1 : q.1 = p.1
          · have h2 : ¬q.2 = p.2 := fun k => hne ⟨h1, k⟩
            go_region_held3 (fun W => W.cell? ⟨g, j * 2, none⟩ = some (.int .i64 p.1) ∧ W.cell? ⟨g, j * 2 + 1, none⟩ = some (.int .i64 p.2) ∧ W.cell? ⟨g, k * 2, none⟩ = some (.int .i64 q.1) ∧ W.cell? ⟨g, k * 2 + 1, none⟩ = some (.int .i64 q.2))
              (go_keep) (first | fail)
            clear x0 x1 y0 y1
            go_wp2_with fail
            go_roundw
            case rel => exact ⟨k + 1, by go_num, by omega, by omega, HR.out.1.dr, HN.out⟩
            case measure => simp [intOf]; omega
          · go_region_held3 (fun W => W.cell? ⟨g, j * 2, none⟩ = some (.int .i64 p.1) ∧ W.cell? ⟨g, j * 2 + 1, none⟩ = some (.int .i64 p.2) ∧ W.cell? ⟨g, k * 2, none⟩ = some (.int .i64 q.1) ∧ W.cell? ⟨g, k * 2 + 1, none⟩ = some (.int .i64 q.2))
              (go_keep) (first | fail)
            clear x0 x1 y0 y1
            go_wp2_with fail
            go_roundw
            case rel => exact ⟨k + 1, by go_num, by omega, by omega, HR.out.1.dr, HN.out⟩
            case measure => simp [intOf]; omega
      · have hk3 : k = l.length := by omega
        subst hk3
        have HD : Hid (ddN l l.length = l) := by rw [Hid, HR.out.2, List.take_length]
        go_wp2_with fail
        go_ret
        rw [HD.out]
        exact ⟨rfl, HR.out.1.but (some g), H.out.new HR.out.1⟩

set_option maxHeartbeats 800000 in
theorem compact_nil (w : World) : Calls Try.prog 102 #[.slice none 0 0] w fun e w' => e = .returned (.slice none 0 0) ∧ Hid (New w w') := by
  go_enter Try.func102, Try.ntmps102
  go_wp2_with fail
  go_ret
  exact ⟨rfl, New.refl _⟩

end Go.Proofs.Ytgeoffpcmkofkaa
