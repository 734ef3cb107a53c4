/- Ng; Nh: texts laid into one. -/
import Derived.Test.YtgeoffpcmkofkaaQbl
/- plumbref's 'Hull': its first loop. -/
namespace Go.Proofs.Ytgeoffpcmkofkaa
open Go.RowKit Fl Go.Lib
set_option maxRecDepth 100000
attribute [local go_sem ↓] Go.wp_at_zero Go.wp_at_succ

set_option maxHeartbeats 3200000 in
theorem refHull_any (g off cap : Nat) (l : Pts) (w : World) (hp : PtsAt w g off l) (hg : g < w.heap.size) (hl : l.length ≤ 1000) (hc : ∀ x ∈ l, CdP x) :
    Calls Try.prog 31 #[.slice (some ⟨g, off, none⟩) l.length cap] w fun e w' => ∃ v, e = .returned v ∧ Hid (New w w' ∧ OwnN w' w.heap.size v (refHull l)) := by
  have HP : Hid (PtsAt w g off l ∧ g < w.heap.size ∧ ∀ x ∈ l, CdP x) := ⟨hp, hg, hc⟩
  clear hp hg hc
  go_enter Try.func31, Try.ntmps31
  go_wp2_with fail
  go_loopw [3, 4] (fun v i wr => ∃ k : Nat, i = .int .i64 (k : Int) ∧ k ≤ l.length ∧ Hid (New w wr ∧ OwnN wr w.heap.size v (cornersTo l k))) (fun _ i _ => l.length - (intOf i).toNat)
  case atStart => exact ⟨0, rfl, Nat.zero_le _, New.refl _, OwnN.nil _ _⟩
  case round =>
    obtain ⟨k, rfl, hk, H⟩ := hrel
    rcases Nat.lt_or_ge k l.length with hk' | hk'
    · have c1 : (k : Int) < (l.length : Int) := by omega
      have hw1 : IntKind.i64.wrap ((k : Int) + 1) = (k : Int) + 1 := by rw [IntKind.wrap_i64]; omega
      go_wp2_with fail
      refine (corner_any g off cap l k wr (HP.out.1.kept HP.out.2.1 H.out.1) (Nat.lt_of_lt_of_le HP.out.2.1 H.out.1.size) (by omega) hk' HP.out.2.2).mono ?_
      rintro e w2 ⟨rfl, H2⟩
      cases hb : cornerB l k with
      | false =>
        have HE : Hid (cornersTo l (k + 1) = cornersTo l k) := by rw [Hid, cornersTo, hb]; rfl
        go_wp2_with fail
        go_roundw
        case rel => exact ⟨k + 1, by go_num, hk', H.out.1.trans' H2.out, by rw [HE.out]; exact H.out.2.new H2.out⟩
        case measure => simp [intOf]; omega
      | true =>
        have HE : Hid (cornersTo l (k + 1) = cornersTo l k ++ [k]) := by rw [Hid, cornersTo, hb]; rfl
        obtain ⟨vk, wk, k1, R⟩ := OwnN.push (H.out.1.trans' H2.out) (H.out.2.new H2.out) k (by have := cornersTo_len l k; omega)
        rw [← HE.out] at R
        clear HE hb
        go_wp2_with (first | (at_builtin; refine Go.Lib.wpList_append_run _ rfl _ _ 46 46 rfl _ _ rfl rfl vk wk k1 ?_) | go_in)
        go_roundw
        case rel => exact ⟨k + 1, by go_num, hk', R.out⟩
        case measure => simp [intOf]; omega
    · have e : k = l.length := by omega
      subst e
      have HCS : Hid (cornersTo l l.length = cornersTo l l.length) := rfl
      obtain ⟨cs, hcs⟩ : ∃ cs, cs = cornersTo l l.length := ⟨_, rfl⟩
      have HS : Hid (cs = cornersTo l l.length ∧ cs.length ≤ l.length ∧ ∀ n ∈ cs, n < l.length) := ⟨hcs, by rw [hcs]; exact cornersTo_len l _, by rw [hcs]; exact cornersTo_lt l _⟩
      rw [← hcs] at H
      clear hcs HCS
      cases cs with
      | nil =>
        obtain ⟨ad, c0, hv⟩ : ∃ ad c0, u3 = .slice ad 0 c0 := by
          rcases H.out.2.form with ⟨e1, _⟩ | ⟨g2, c2, e1, _⟩
          · exact ⟨none, 0, e1⟩
          · exact ⟨_, c2, e1⟩
        subst hv
        by_cases hz : l = []
        · have HE : Hid (refHull l = []) := by rw [Hid, refHull, ← HS.out.1]; simp [hz]
          have hz0 : l.length = 0 := by rw [hz]; rfl
          have hz1 : ¬(0 : Int) < (l.length : Int) := by omega
          clear hz
          go_wp2_with fail
          go_ret
          exact ⟨_, rfl, H.out.1, by rw [HE.out]; exact OwnN.nil _ _⟩
        · have HE : Hid (refHull l = [0]) := by rw [Hid, refHull, ← HS.out.1]; simp [hz]
          have hz1 : (0 : Int) < (l.length : Int) := by have := List.length_pos_iff.2 hz; omega
          have HO : Hid (OwnN (wr.alloc (.cells #[.int .i64 0] 3)) w.heap.size (.slice (some ⟨wr.heap.size, 0, none⟩) 1 1) [0]) := World.ownsRow_lit wr #[.int .i64 0] 1 H.out.1.size (by unfold maxLen; omega) (by simp)
          go_wp2_with fail
          go_ret
          exact ⟨_, rfl, H.out.1.alloc' _, by rw [HE.out]; exact HO.out⟩
      | cons c cs =>
        rcases H.out.2.form with ⟨_, e2⟩ | ⟨gc, cc, e1, hgb, hgl⟩
        · simp at e2
        · subst e1
          obtain ⟨L, hL⟩ : ∃ L, L = c :: cs := ⟨_, rfl⟩
          have h0 : L[0]? = some c := by rw [hL]; rfl
          have hpos : 0 < L.length := by rw [hL]; simp
          have HE : Hid (refHull l = goRound l L (leastTo l L c L.length) L.length) := by
            unfold Hid refHull
            rw [← HS.out.1]
            subst hL
            rfl
          rw [← hL] at H HS ⊢
          clear hL
          have HNu : Hid (∀ V, New wr V → NumsAt V gc L) := fun V hV => (H.out.2.new hV).nums
          have HF : Hid (∀ V, New wr V → ∀ n, n < l.length → V.cell? ⟨g, off + n * 2, none⟩ = some (.int .i64 (pN l n).1) ∧ V.cell? ⟨g, off + n * 2 + 1, none⟩ = some (.int .i64 (pN l n).2)) := fun V hV n hn => by
            have := HP.out.1.kept HP.out.2.1 (H.out.1.trans' hV) n hn
            rw [show pN l n = l[n] by simp [pN, hn]]
            exact this
          have HLt : Hid (∀ k, leastTo l L c k < l.length) := fun k => by
            induction k with
            | zero => exact HS.out.2.2 c (List.mem_of_getElem? h0)
            | succ k ih =>
              unfold leastTo
              split
              · rename_i c' hc'
                split
                · exact HS.out.2.2 c' (List.mem_of_getElem? hc')
                · exact ih
              · exact ih
          have x0 := HNu.out wr (New.refl _) 0 c h0
          have p1 : (0 : Int) < (L.length : Int) := by omega
          have p2 : ¬(L.length : Int) = 0 := by omega
          have p3 : ((L.length : Int) == 0) = false := by simpa using p2
          go_wp2_with fail
          go_loopw [6, 7] (fun a v w2 => ∃ m : Nat, a = .int .i64 (leastTo l L c m : Int) ∧ v = .int .i64 (m : Int) ∧ m ≤ L.length ∧ Hid (New wr w2)) (fun _ v _ => L.length - (intOf v).toNat)
          case atStart => exact ⟨0, rfl, rfl, Nat.zero_le _, New.refl _⟩
          case round =>
            obtain ⟨m, rfl, rfl, hm, HN2⟩ := hrel
            rcases Nat.lt_or_ge m L.length with hm' | hm'
            · obtain ⟨d, hd⟩ : ∃ d, L[m]? = some d := ⟨_, List.getElem?_eq_getElem hm'⟩
              have HD : Hid (L[m]? = some d) := hd
              have hdl : d < l.length := HS.out.2.2 d (List.mem_of_getElem? hd)
              have y0 := HNu.out wr HN2.out m d hd
              have y1 := HF.out wr HN2.out d hdl
              obtain ⟨t, ht⟩ : ∃ t, t = leastTo l L c m := ⟨_, rfl⟩
              have htl : t < l.length := by rw [ht]; exact HLt.out m
              have HT : Hid (t = leastTo l L c m) := ht
              rw [← ht]
              clear ht hd x0
              obtain ⟨y1, y2⟩ := y1
              obtain ⟨pd, hpd⟩ : ∃ pd, pd = pN l d := ⟨_, rfl⟩
              obtain ⟨pt, hpt⟩ : ∃ pt, pt = pN l t := ⟨_, rfl⟩
              have HPd : Hid (pd = pN l d ∧ pt = pN l t) := ⟨hpd, hpt⟩
              have z1 := HF.out (wr.alloc (.cells #[.int .i64 pd.1, .int .i64 pd.2] 23)) (HN2.out.alloc' _) t htl
              rw [← hpd] at y1 y2
              rw [← hpt] at z1
              obtain ⟨z1, z2⟩ := z1
              clear hpd hpt
              have u1 : (wr.alloc (.cells #[.int .i64 pd.1, .int .i64 pd.2] 23)).cell? ⟨wr.heap.size, 0, none⟩ = some (.int .i64 pd.1) := by go_simp
              have u2 : (wr.alloc (.cells #[.int .i64 pd.1, .int .i64 pd.2] 23)).cell? ⟨wr.heap.size, 1, none⟩ = some (.int .i64 pd.2) := by go_simp
              have i0 : (0 : Int) ≤ (m : Int) := by omega
              have i1 : (m : Int) < (L.length : Int) := by omega
              have i2 : (0 : Int) ≤ (d : Int) := by omega
              have i3 : (d : Int) < (l.length : Int) := by omega
              have i4 : (0 : Int) ≤ (t : Int) := by omega
              have i5 : (t : Int) < (l.length : Int) := by omega
              have hw1 : IntKind.i64.wrap ((m : Int) + 1) = (m : Int) + 1 := by rw [IntKind.wrap_i64]; have := HS.out.2.1; omega
              have v0 : (wr.alloc (.cells #[.int .i64 pd.1, .int .i64 pd.2] 23)).cell? ⟨gc, m, none⟩ = some (.int .i64 (d : Int)) := HNu.out _ (HN2.out.alloc' _) m d HD.out
              have v1 : ∀ q, ((wr.alloc (.cells #[.int .i64 pd.1, .int .i64 pd.2] 23)).drewN q).cell? ⟨gc, m, none⟩ = some (.int .i64 (d : Int)) := fun q => HNu.out _ ((HN2.out.alloc' _).drewN q) m d HD.out
              by_cases q1 : pd.1 < pt.1
              · have HL : Hid (leastTo l L c (m + 1) = d) := by simp [Hid, leastTo, HD.out, lessP, ← HT.out, ← HPd.out.1, ← HPd.out.2, q1]
                have r1 : decide (pd.1 < pt.1) = true := decide_eq_true q1
                go_wp2_with fail
                go_quiet (fail)
                go_wp2_with fail
                go_roundw
                case rel => exact ⟨m + 1, by rw [HL.out], by go_num, hm', (HN2.out.alloc' _).drewN _⟩
                case measure => simp [intOf]; omega
              · have r1 : decide (pd.1 < pt.1) = false := decide_eq_false q1
                by_cases q2 : pd.1 = pt.1
                · have r2 : (pd.1 == pt.1) = true := by simpa using q2
                  by_cases q3 : pd.2 < pt.2
                  · have HL : Hid (leastTo l L c (m + 1) = d) := by simp [Hid, leastTo, HD.out, lessP, ← HT.out, ← HPd.out.1, ← HPd.out.2, q2, q3]
                    have r3 : decide (pd.2 < pt.2) = true := decide_eq_true q3
                    clear q2
                    go_wp2_with fail
                    go_quiet (fail)
                    go_wp2_with fail
                    go_roundw
                    case rel => exact ⟨m + 1, by rw [HL.out], by go_num, hm', (HN2.out.alloc' _).drewN _⟩
                    case measure => simp [intOf]; omega
                  · have HL : Hid (leastTo l L c (m + 1) = t) := by simp [Hid, leastTo, HD.out, lessP, ← HT.out, ← HPd.out.1, ← HPd.out.2, q2, q3]
                    have r3 : decide (pd.2 < pt.2) = false := decide_eq_false q3
                    clear q2
                    go_wp2_with fail
                    go_quiet (fail)
                    go_wp2_with fail
                    go_roundw
                    case rel => exact ⟨m + 1, by rw [HL.out], by go_num, hm', (HN2.out.alloc' _).drewN _⟩
                    case measure => simp [intOf]; omega
                · have r2 : (pd.1 == pt.1) = false := by simpa using q2
                  have HL : Hid (leastTo l L c (m + 1) = t) := by simp [Hid, leastTo, HD.out, lessP, ← HT.out, ← HPd.out.1, ← HPd.out.2, q1, q2]
                  go_wp2_with fail
                  go_quiet (fail)
                  go_wp2_with fail
                  go_roundw
                  case rel => exact ⟨m + 1, by rw [HL.out], by go_num, hm', (HN2.out.alloc' _).drewN _⟩
                  case measure => simp [intOf]; omega
            · have e : m = L.length := by omega
              subst e
              obtain ⟨t0, ht0⟩ : ∃ t0, t0 = leastTo l L c L.length := ⟨_, rfl⟩
              have ht0l : t0 < l.length := by rw [ht0]; exact HLt.out _
              have HR0 : Hid (refHull l = goRound l L t0 L.length) := by rw [Hid, HE.out, ht0]
              rw [← ht0]
              clear ht0 x0
              obtain ⟨wo, rfl⟩ : ∃ wo, wo = wr := ⟨_, rfl⟩
              go_wp2_with fail
              go_loopw [6, 9, 10] (fun a v n w3 => ∃ (m b : Nat) (pre : List Nat), a = .int .i64 (b : Int) ∧ n = .int .i64 (m : Int) ∧ m ≤ L.length ∧ b < l.length ∧ Hid (New wo w3 ∧ OwnN w3 wo.heap.size v pre ∧ pre.length = m ∧ refHull l = pre ++ goRound l L b (L.length - m))) (fun _ _ n _ => L.length - (intOf n).toNat)
              case atStart => exact ⟨0, t0, [], rfl, rfl, Nat.zero_le _, ht0l, New.refl _, OwnN.nil _ _, rfl, by rw [HR0.out]; rfl⟩
              case round =>
                obtain ⟨m, b, pre, rfl, rfl, hm, hbl, HM⟩ := hrel
                rcases Nat.lt_or_ge m L.length with hm' | hm'
                · obtain ⟨vk, wk, k1, R⟩ := OwnN.push HM.out.1 HM.out.2.1 b (by have := HM.out.2.2.1; have := HS.out.2.1; omega)
                  have HWk : Hid (New w wk ∧ NumsAt wk gc L) := ⟨(H.out.1.trans' HN2.out).trans' R.out.1, HNu.out wk (HN2.out.trans' R.out.1)⟩
                  have hw1 : IntKind.i64.wrap ((m : Int) + 1) = (m : Int) + 1 := by rw [IntKind.wrap_i64]; have := HS.out.2.1; omega
                  have i1 : (m : Int) < (L.length : Int) := by omega
                  have HX : Hid (nextN l L b < l.length) := by
                    unfold Hid nextN
                    cases hf : L.find? (nextB l L b) with
                    | none => exact hbl
                    | some n => exact HS.out.2.2 n (List.mem_of_find?_eq_some hf)
                  have HG : Hid (refHull l = (pre ++ [b]) ++ goRound l L (nextN l L b) (L.length - (m + 1))) := by
                    rw [Hid, HM.out.2.2.2, show L.length - m = (L.length - (m + 1)) + 1 by omega]
                    simp [goRound]
                  go_wp2_with (first | (at_builtin; refine Go.Lib.wpList_append_run _ rfl _ _ 46 46 rfl _ _ rfl rfl vk wk k1 ?_) | fail)
                  refine (next_any g off cap gc cc l L b wk (HP.out.1.kept HP.out.2.1 HWk.out.1) (Nat.lt_of_lt_of_le HP.out.2.1 HWk.out.1.size) HP.out.2.2 hbl HWk.out.2 HS.out.2.2 (by have := HS.out.2.1; omega)).mono ?_
                  rintro e w6 ⟨rfl, H6⟩
                  go_wp2_with fail
                  go_roundw
                  case rel => exact ⟨m + 1, nextN l L b, pre ++ [b], rfl, by go_num, hm', HX.out, R.out.1.trans' H6.out, R.out.2.new H6.out, by simp [HM.out.2.2.1], HG.out⟩
                  case measure => simp [intOf]; omega
                · have e : m = L.length := by omega
                  subst e
                  have HG : Hid (refHull l = pre) := by rw [Hid, HM.out.2.2.2, Nat.sub_self]; simp [goRound]
                  have HB : Hid (w.heap.size ≤ wo.heap.size) := (H.out.1.trans' HN2.out).size
                  go_wp2_with fail
                  go_ret
                  refine ⟨_, rfl, (H.out.1.trans' HN2.out).trans' HM.out.1, ?_⟩
                  rw [HG.out]
                  exact ⟨HM.out.2.1.1, HM.out.2.1.2.imp id fun ⟨g, cap, cur, h1, h2, h3⟩ => ⟨g, cap, cur, h1, Nat.le_trans HB.out h2, h3⟩⟩
end Go.Proofs.Ytgeoffpcmkofkaa
/- plumbref's 'Hull' of any list. -/
namespace Go.Proofs.Ytgeoffpcmkofkaa
open Go.RowKit Fl Go.Lib
set_option maxRecDepth 100000

set_option maxHeartbeats 400000 in
theorem refHull_none (ao : Option Addr) (cap : Nat) (w : World) :
    Calls Try.prog 31 #[.slice ao 0 cap] w fun e w' => e = .returned (.slice none 0 0) ∧ Hid (New w w') := by
  go_enter Try.func31, Try.ntmps31
  go_wp2_with fail
  go_loopw [3, 4] (fun v i wr => v = .slice none 0 0 ∧ i = .int .i64 0 ∧ w = wr) (fun _ _ _ => 0)
  case atStart => exact ⟨rfl, rfl, rfl⟩
  case round =>
    obtain ⟨rfl, rfl, rfl⟩ := hrel
    go_wp2_with fail
    go_ret
    exact ⟨rfl, New.refl _⟩
theorem goRound_len (l : Pts) (cs : List Nat) : ∀ (k a : Nat), (goRound l cs a k).length = k
  | 0, _ => rfl
  | k + 1, a => by unfold goRound; rw [List.length_cons, goRound_len l cs k]
theorem refHull_len (l : Pts) : (refHull l).length ≤ l.length := by
  have h := cornersTo_len l l.length
  unfold refHull
  split
  · split
    · simp
    · rename_i hn
      have := List.length_pos_iff.2 hn
      simp
      omega
  · rename_i c cs e
    rw [e] at h
    rw [goRound_len]
    exact h
/-- .. of any list. -/
theorem refHull_poly (ao : Option Addr) (cap : Nat) (l : Pts) (w : World) (h : PolyAt w ao l) (hl : l.length ≤ 1000) (hc : ∀ x ∈ l, CdP x) :
    Calls Try.prog 31 #[.slice ao l.length cap] w fun e w' => ∃ v, e = .returned v ∧ Hid (New w w' ∧ OwnN w' w.heap.size v (refHull l)) := by
  by_cases hn : l = []
  · subst hn
    refine (refHull_none ao cap w).mono ?_
    rintro e w' ⟨rfl, H⟩
    exact ⟨_, rfl, H.out, by simpa [refHull, cornersTo] using OwnN.nil w' w.heap.size⟩
  · obtain ⟨g, off, rfl, hp, hg⟩ := h (List.length_pos_iff.2 hn)
    exact refHull_any g off cap l w hp hg hl hc
end Go.Proofs.Ytgeoffpcmkofkaa
