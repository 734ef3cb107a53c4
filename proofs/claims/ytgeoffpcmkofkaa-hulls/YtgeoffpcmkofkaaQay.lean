/- Ng; Nh; Ms; Mt; Mu: texts laid into one. -/
import Derived.Test.YtgeoffpcmkofkaaQax
import Derived.Lib.SmallJoins
/- plumbref's 'Hull': its first loop. -/
namespace Go.Proofs.Ytgeoffpcmkofkaa
open Go.RowKit Fl Go.Lib
set_option maxRecDepth 100000
attribute [local go_sem ↓] Go.wp_at_zero Go.wp_at_succ

set_option maxHeartbeats 3200000 in
theorem refHull_any (g off cap : Nat) (l : Pts) (w : World) (hp : PtsAt w g off l) (hg : g < w.heap.size) (hl : l.length ≤ 1000) (hc : ∀ x ∈ l, CdP x) :
    Calls Try.prog 31 #[.slice (some ⟨g, off, none⟩) l.length cap] w fun e w' => ∃ v, e = .returned v ∧ Hid (New w w' ∧ OwnN w' w.heap.size v (refHull l)) := by
  have HP : Hid (PtsAt w g off l ∧ g < w.heap.size ∧ ∀ x ∈ l, CdP x) := ⟨hp, hg, hc⟩
  clear hp hg hc
  go_enter Try.func31, Try.ntmps31
  go_wp2_with fail
  go_loopw [3, 4] (fun v i wr => ∃ k : Nat, i = .int .i64 (k : Int) ∧ k ≤ l.length ∧ Hid (New w wr ∧ OwnN wr w.heap.size v (cornersTo l k))) (fun _ i _ => l.length - (intOf i).toNat)
  case atStart => exact ⟨0, rfl, Nat.zero_le _, New.refl _, OwnN.nil _ _⟩
  case round =>
    obtain ⟨k, rfl, hk, H⟩ := hrel
    rcases Nat.lt_or_ge k l.length with hk' | hk'
    · have c1 : (k : Int) < (l.length : Int) := by omega
      have hw1 : IntKind.i64.wrap ((k : Int) + 1) = (k : Int) + 1 := by rw [IntKind.wrap_i64]; omega
      go_wp2_with fail
      refine (corner_any g off cap l k wr (HP.out.1.kept HP.out.2.1 H.out.1) (Nat.lt_of_lt_of_le HP.out.2.1 H.out.1.size) (by omega) hk' HP.out.2.2).mono ?_
      rintro e w2 ⟨rfl, H2⟩
      cases hb : cornerB l k with
      | false =>
        have HE : Hid (cornersTo l (k + 1) = cornersTo l k) := by rw [Hid, cornersTo, hb]; rfl
        go_wp2_with fail
        go_roundw
        case rel => exact ⟨k + 1, by go_num, hk', H.out.1.trans' H2.out, by rw [HE.out]; exact H.out.2.new H2.out⟩
        case measure => simp [intOf]; omega
      | true =>
        have HE : Hid (cornersTo l (k + 1) = cornersTo l k ++ [k]) := by rw [Hid, cornersTo, hb]; rfl
        obtain ⟨vk, wk, k1, R⟩ := OwnN.push (H.out.1.trans' H2.out) (H.out.2.new H2.out) k (by have := cornersTo_len l k; omega)
        rw [← HE.out] at R
        clear HE hb
        go_wp2_with (first | (at_builtin; refine Go.Lib.wpList_append_run _ rfl _ _ 46 46 rfl _ _ rfl rfl vk wk k1 ?_) | go_in)
        go_roundw
        case rel => exact ⟨k + 1, by go_num, hk', R.out⟩
        case measure => simp [intOf]; omega
    · have e : k = l.length := by omega
      subst e
      have HCS : Hid (cornersTo l l.length = cornersTo l l.length) := rfl
      obtain ⟨cs, hcs⟩ : ∃ cs, cs = cornersTo l l.length := ⟨_, rfl⟩
      have HS : Hid (cs = cornersTo l l.length ∧ cs.length ≤ l.length ∧ ∀ n ∈ cs, n < l.length) := ⟨hcs, by rw [hcs]; exact cornersTo_len l _, by rw [hcs]; exact cornersTo_lt l _⟩
      rw [← hcs] at H
      clear hcs HCS
      cases cs with
      | nil =>
        obtain ⟨ad, c0, hv⟩ : ∃ ad c0, u3 = .slice ad 0 c0 := by
          rcases H.out.2.form with ⟨e1, _⟩ | ⟨g2, c2, e1, _⟩
          · exact ⟨none, 0, e1⟩
          · exact ⟨_, c2, e1⟩
        subst hv
        by_cases hz : l = []
        · have HE : Hid (refHull l = []) := by rw [Hid, refHull, ← HS.out.1]; simp [hz]
          have hz0 : l.length = 0 := by rw [hz]; rfl
          have hz1 : ¬(0 : Int) < (l.length : Int) := by omega
          clear hz
          go_wp2_with fail
          go_ret
          exact ⟨_, rfl, H.out.1, by rw [HE.out]; exact OwnN.nil _ _⟩
        · have HE : Hid (refHull l = [0]) := by rw [Hid, refHull, ← HS.out.1]; simp [hz]
          have hz1 : (0 : Int) < (l.length : Int) := by have := List.length_pos_iff.2 hz; omega
          have HO : Hid (OwnN (wr.alloc (.cells #[.int .i64 0] 3)) w.heap.size (.slice (some ⟨wr.heap.size, 0, none⟩) 1 1) [0]) := World.ownsRow_lit wr #[.int .i64 0] 1 H.out.1.size (by unfold maxLen; omega) (by simp)
          go_wp2_with fail
          go_ret
          exact ⟨_, rfl, H.out.1.alloc' _, by rw [HE.out]; exact HO.out⟩
      | cons c cs =>
        rcases H.out.2.form with ⟨_, e2⟩ | ⟨gc, cc, e1, hgb, hgl⟩
        · simp at e2
        · subst e1
          obtain ⟨L, hL⟩ : ∃ L, L = c :: cs := ⟨_, rfl⟩
          have h0 : L[0]? = some c := by rw [hL]; rfl
          have hpos : 0 < L.length := by rw [hL]; simp
          have HE : Hid (refHull l = goRound l L (leastTo l L c L.length) L.length) := by
            unfold Hid refHull
            rw [← HS.out.1]
            subst hL
            rfl
          rw [← hL] at H HS ⊢
          clear hL
          have HNu : Hid (∀ V, New wr V → NumsAt V gc L) := fun V hV => (H.out.2.new hV).nums
          have HF : Hid (∀ V, New wr V → ∀ n, n < l.length → V.cell? ⟨g, off + n * 2, none⟩ = some (.int .i64 (pN l n).1) ∧ V.cell? ⟨g, off + n * 2 + 1, none⟩ = some (.int .i64 (pN l n).2)) := fun V hV n hn => by
            have := HP.out.1.kept HP.out.2.1 (H.out.1.trans' hV) n hn
            rw [show pN l n = l[n] by simp [pN, hn]]
            exact this
          have HLt : Hid (∀ k, leastTo l L c k < l.length) := fun k => by
            induction k with
            | zero => exact HS.out.2.2 c (List.mem_of_getElem? h0)
            | succ k ih =>
              unfold leastTo
              split
              · rename_i c' hc'
                split
                · exact HS.out.2.2 c' (List.mem_of_getElem? hc')
                · exact ih
              · exact ih
          have x0 := HNu.out wr (New.refl _) 0 c h0
          have p1 : (0 : Int) < (L.length : Int) := by omega
          have p2 : ¬(L.length : Int) = 0 := by omega
          have p3 : ((L.length : Int) == 0) = false := by simpa using p2
          go_wp2_with fail
          go_loopw [6, 7] (fun a v w2 => ∃ m : Nat, a = .int .i64 (leastTo l L c m : Int) ∧ v = .int .i64 (m : Int) ∧ m ≤ L.length ∧ Hid (New wr w2)) (fun _ v _ => L.length - (intOf v).toNat)
          case atStart => exact ⟨0, rfl, rfl, Nat.zero_le _, New.refl _⟩
          case round =>
            obtain ⟨m, rfl, rfl, hm, HN2⟩ := hrel
            rcases Nat.lt_or_ge m L.length with hm' | hm'
            · obtain ⟨d, hd⟩ : ∃ d, L[m]? = some d := ⟨_, List.getElem?_eq_getElem hm'⟩
              have HD : Hid (L[m]? = some d) := hd
              have hdl : d < l.length := HS.out.2.2 d (List.mem_of_getElem? hd)
              have y0 := HNu.out wr HN2.out m d hd
              have y1 := HF.out wr HN2.out d hdl
              obtain ⟨t, ht⟩ : ∃ t, t = leastTo l L c m := ⟨_, rfl⟩
              have htl : t < l.length := by rw [ht]; exact HLt.out m
              have HT : Hid (t = leastTo l L c m) := ht
              rw [← ht]
              clear ht hd x0
              obtain ⟨y1, y2⟩ := y1
              obtain ⟨pd, hpd⟩ : ∃ pd, pd = pN l d := ⟨_, rfl⟩
              obtain ⟨pt, hpt⟩ : ∃ pt, pt = pN l t := ⟨_, rfl⟩
              have HPd : Hid (pd = pN l d ∧ pt = pN l t) := ⟨hpd, hpt⟩
              have z1 := HF.out (wr.alloc (.cells #[.int .i64 pd.1, .int .i64 pd.2] 23)) (HN2.out.alloc' _) t htl
              rw [← hpd] at y1 y2
              rw [← hpt] at z1
              obtain ⟨z1, z2⟩ := z1
              clear hpd hpt
              have u1 : (wr.alloc (.cells #[.int .i64 pd.1, .int .i64 pd.2] 23)).cell? ⟨wr.heap.size, 0, none⟩ = some (.int .i64 pd.1) := by go_simp
              have u2 : (wr.alloc (.cells #[.int .i64 pd.1, .int .i64 pd.2] 23)).cell? ⟨wr.heap.size, 1, none⟩ = some (.int .i64 pd.2) := by go_simp
              have i0 : (0 : Int) ≤ (m : Int) := by omega
              have i1 : (m : Int) < (L.length : Int) := by omega
              have i2 : (0 : Int) ≤ (d : Int) := by omega
              have i3 : (d : Int) < (l.length : Int) := by omega
              have i4 : (0 : Int) ≤ (t : Int) := by omega
              have i5 : (t : Int) < (l.length : Int) := by omega
              have hw1 : IntKind.i64.wrap ((m : Int) + 1) = (m : Int) + 1 := by rw [IntKind.wrap_i64]; have := HS.out.2.1; omega
              have v0 : (wr.alloc (.cells #[.int .i64 pd.1, .int .i64 pd.2] 23)).cell? ⟨gc, m, none⟩ = some (.int .i64 (d : Int)) := HNu.out _ (HN2.out.alloc' _) m d HD.out
              have v1 : ∀ q, ((wr.alloc (.cells #[.int .i64 pd.1, .int .i64 pd.2] 23)).drewN q).cell? ⟨gc, m, none⟩ = some (.int .i64 (d : Int)) := fun q => HNu.out _ ((HN2.out.alloc' _).drewN q) m d HD.out
              by_cases q1 : pd.1 < pt.1
              · have HL : Hid (leastTo l L c (m + 1) = d) := by simp [Hid, leastTo, HD.out, lessP, ← HT.out, ← HPd.out.1, ← HPd.out.2, q1]
                have r1 : decide (pd.1 < pt.1) = true := decide_eq_true q1
                go_wp2_with fail
                go_quiet (fail)
                go_wp2_with fail
                go_roundw
                case rel => exact ⟨m + 1, by rw [HL.out], by go_num, hm', (HN2.out.alloc' _).drewN _⟩
                case measure => simp [intOf]; omega
              · have r1 : decide (pd.1 < pt.1) = false := decide_eq_false q1
                by_cases q2 : pd.1 = pt.1
                · have r2 : (pd.1 == pt.1) = true := by simpa using q2
                  by_cases q3 : pd.2 < pt.2
                  · have HL : Hid (leastTo l L c (m + 1) = d) := by simp [Hid, leastTo, HD.out, lessP, ← HT.out, ← HPd.out.1, ← HPd.out.2, q2, q3]
                    have r3 : decide (pd.2 < pt.2) = true := decide_eq_true q3
                    clear q2
                    go_wp2_with fail
                    go_quiet (fail)
                    go_wp2_with fail
                    go_roundw
                    case rel => exact ⟨m + 1, by rw [HL.out], by go_num, hm', (HN2.out.alloc' _).drewN _⟩
                    case measure => simp [intOf]; omega
                  · have HL : Hid (leastTo l L c (m + 1) = t) := by simp [Hid, leastTo, HD.out, lessP, ← HT.out, ← HPd.out.1, ← HPd.out.2, q2, q3]
                    have r3 : decide (pd.2 < pt.2) = false := decide_eq_false q3
                    clear q2
                    go_wp2_with fail
                    go_quiet (fail)
                    go_wp2_with fail
                    go_roundw
                    case rel => exact ⟨m + 1, by rw [HL.out], by go_num, hm', (HN2.out.alloc' _).drewN _⟩
                    case measure => simp [intOf]; omega
                · have r2 : (pd.1 == pt.1) = false := by simpa using q2
                  have HL : Hid (leastTo l L c (m + 1) = t) := by simp [Hid, leastTo, HD.out, lessP, ← HT.out, ← HPd.out.1, ← HPd.out.2, q1, q2]
                  go_wp2_with fail
                  go_quiet (fail)
                  go_wp2_with fail
                  go_roundw
                  case rel => exact ⟨m + 1, by rw [HL.out], by go_num, hm', (HN2.out.alloc' _).drewN _⟩
                  case measure => simp [intOf]; omega
            · have e : m = L.length := by omega
              subst e
              obtain ⟨t0, ht0⟩ : ∃ t0, t0 = leastTo l L c L.length := ⟨_, rfl⟩
              have ht0l : t0 < l.length := by rw [ht0]; exact HLt.out _
              have HR0 : Hid (refHull l = goRound l L t0 L.length) := by rw [Hid, HE.out, ht0]
              rw [← ht0]
              clear ht0 x0
              obtain ⟨wo, rfl⟩ : ∃ wo, wo = wr := ⟨_, rfl⟩
              go_wp2_with fail
              go_loopw [6, 9, 10] (fun a v n w3 => ∃ (m b : Nat) (pre : List Nat), a = .int .i64 (b : Int) ∧ n = .int .i64 (m : Int) ∧ m ≤ L.length ∧ b < l.length ∧ Hid (New wo w3 ∧ OwnN w3 wo.heap.size v pre ∧ pre.length = m ∧ refHull l = pre ++ goRound l L b (L.length - m))) (fun _ _ n _ => L.length - (intOf n).toNat)
              case atStart => exact ⟨0, t0, [], rfl, rfl, Nat.zero_le _, ht0l, New.refl _, OwnN.nil _ _, rfl, by rw [HR0.out]; rfl⟩
              case round =>
                obtain ⟨m, b, pre, rfl, rfl, hm, hbl, HM⟩ := hrel
                rcases Nat.lt_or_ge m L.length with hm' | hm'
                · obtain ⟨vk, wk, k1, R⟩ := OwnN.push HM.out.1 HM.out.2.1 b (by have := HM.out.2.2.1; have := HS.out.2.1; omega)
                  have HWk : Hid (New w wk ∧ NumsAt wk gc L) := ⟨(H.out.1.trans' HN2.out).trans' R.out.1, HNu.out wk (HN2.out.trans' R.out.1)⟩
                  have hw1 : IntKind.i64.wrap ((m : Int) + 1) = (m : Int) + 1 := by rw [IntKind.wrap_i64]; have := HS.out.2.1; omega
                  have i1 : (m : Int) < (L.length : Int) := by omega
                  have HX : Hid (nextN l L b < l.length) := by
                    unfold Hid nextN
                    cases hf : L.find? (nextB l L b) with
                    | none => exact hbl
                    | some n => exact HS.out.2.2 n (List.mem_of_find?_eq_some hf)
                  have HG : Hid (refHull l = (pre ++ [b]) ++ goRound l L (nextN l L b) (L.length - (m + 1))) := by
                    rw [Hid, HM.out.2.2.2, show L.length - m = (L.length - (m + 1)) + 1 by omega]
                    simp [goRound]
                  go_wp2_with (first | (at_builtin; refine Go.Lib.wpList_append_run _ rfl _ _ 46 46 rfl _ _ rfl rfl vk wk k1 ?_) | fail)
                  refine (next_any g off cap gc cc l L b wk (HP.out.1.kept HP.out.2.1 HWk.out.1) (Nat.lt_of_lt_of_le HP.out.2.1 HWk.out.1.size) HP.out.2.2 hbl HWk.out.2 HS.out.2.2 (by have := HS.out.2.1; omega)).mono ?_
                  rintro e w6 ⟨rfl, H6⟩
                  go_wp2_with fail
                  go_roundw
                  case rel => exact ⟨m + 1, nextN l L b, pre ++ [b], rfl, by go_num, hm', HX.out, R.out.1.trans' H6.out, R.out.2.new H6.out, by simp [HM.out.2.2.1], HG.out⟩
                  case measure => simp [intOf]; omega
                · have e : m = L.length := by omega
                  subst e
                  have HG : Hid (refHull l = pre) := by rw [Hid, HM.out.2.2.2, Nat.sub_self]; simp [goRound]
                  have HB : Hid (w.heap.size ≤ wo.heap.size) := (H.out.1.trans' HN2.out).size
                  go_wp2_with fail
                  go_ret
                  refine ⟨_, rfl, (H.out.1.trans' HN2.out).trans' HM.out.1, ?_⟩
                  rw [HG.out]
                  exact ⟨HM.out.2.1.1, HM.out.2.1.2.imp id fun ⟨g, cap, cur, h1, h2, h3⟩ => ⟨g, cap, cur, h1, Nat.le_trans HB.out h2, h3⟩⟩
end Go.Proofs.Ytgeoffpcmkofkaa
/- plumbref's 'Hull' of any list. -/
namespace Go.Proofs.Ytgeoffpcmkofkaa
open Go.RowKit Fl Go.Lib
set_option maxRecDepth 100000

set_option maxHeartbeats 400000 in
theorem refHull_none (ao : Option Addr) (cap : Nat) (w : World) :
    Calls Try.prog 31 #[.slice ao 0 cap] w fun e w' => e = .returned (.slice none 0 0) ∧ Hid (New w w') := by
  go_enter Try.func31, Try.ntmps31
  go_wp2_with fail
  go_loopw [3, 4] (fun v i wr => v = .slice none 0 0 ∧ i = .int .i64 0 ∧ w = wr) (fun _ _ _ => 0)
  case atStart => exact ⟨rfl, rfl, rfl⟩
  case round =>
    obtain ⟨rfl, rfl, rfl⟩ := hrel
    go_wp2_with fail
    go_ret
    exact ⟨rfl, New.refl _⟩
theorem goRound_len (l : Pts) (cs : List Nat) : ∀ (k a : Nat), (goRound l cs a k).length = k
  | 0, _ => rfl
  | k + 1, a => by unfold goRound; rw [List.length_cons, goRound_len l cs k]
theorem refHull_len (l : Pts) : (refHull l).length ≤ l.length := by
  have h := cornersTo_len l l.length
  unfold refHull
  split
  · split
    · simp
    · rename_i hn
      have := List.length_pos_iff.2 hn
      simp
      omega
  · rename_i c cs e
    rw [e] at h
    rw [goRound_len]
    exact h
/-- .. of any list. -/
theorem refHull_poly (ao : Option Addr) (cap : Nat) (l : Pts) (w : World) (h : PolyAt w ao l) (hl : l.length ≤ 1000) (hc : ∀ x ∈ l, CdP x) :
    Calls Try.prog 31 #[.slice ao l.length cap] w fun e w' => ∃ v, e = .returned v ∧ Hid (New w w' ∧ OwnN w' w.heap.size v (refHull l)) := by
  by_cases hn : l = []
  · subst hn
    refine (refHull_none ao cap w).mono ?_
    rintro e w' ⟨rfl, H⟩
    exact ⟨_, rfl, H.out, by simpa [refHull, cornersTo] using OwnN.nil w' w.heap.size⟩
  · obtain ⟨g, off, rfl, hp, hg⟩ := h (List.length_pos_iff.2 hn)
    exact refHull_any g off cap l w hp hg hl hc
end Go.Proofs.Ytgeoffpcmkofkaa
/- For Hulls: what stands between its calls. -/
namespace Go.Proofs.Ytgeoffpcmkofkaa
open Go Go.Conc Go.RowKit Fl Go.Maps Go.Joins
set_option maxRecDepth 100000

/-- What plumb.Hull answers. -/
def ansL (l : Pts) : List Nat := if errL l = 0 then refHull l else []
theorem ansL_len (l : Pts) : (ansL l).length ≤ 40 := by
  unfold ansL
  split
  · rename_i h
    have := refHull_len l
    have := (errL_zero h).1
    omega
  · simp
/-- plumb.Hull, told once. -/
theorem A.hullA {Post : Value → World → Prop} {lv : Value} {l : Pts} {w : World} {x : Frame} {cs : List Frame} (hlv : RowL w lv l) (hG : GN ≤ w.heap.size)
    (h : ∀ v w', Kept w w' → OwnN w' w.heap.size v (ansL l) → A Try.prog Post (x.finish (.tuple #[v, .int .i64 (errL l)])) cs w') :
    A Try.prog Post (Frame.enter Try.prog 32 #[lv] .normal) (x :: cs) w := by
  refine A.hull hlv hG (fun he w' hk => h _ w' hk ?_) (fun he v w' hO => ?_)
  · unfold ansL
    rw [if_neg he]
    exact OwnN.nil _ _
  · have := h v w' hO.kept (by
      unfold ansL OwnN
      rw [if_pos he]
      have e := refHull_same (errL_zero he).2
      have r := hO.row
      rw [e] at r
      simpa using r)
    rw [he] at this
    exact this
theorem OwnN.ints {w : World} {base : Nat} {v : Value} {cs : List Nat} (h : OwnN w base v cs) : ∃ ao c, v = .slice ao (cs.map fun (n : Nat) => (n : Int)).length c ∧ IntsAt w ao (cs.map fun (n : Nat) => (n : Int)) := by
  rcases h.form with ⟨e, e2⟩ | ⟨g, cap, e, _, _⟩
  · subst e2
    exact ⟨none, 0, e, fun h0 => by simp at h0⟩
  · refine ⟨_, cap, by rw [List.length_map]; exact e, fun _ => ⟨g, rfl, fun i x hx => ?_⟩⟩
    subst e
    rw [List.getElem?_map] at hx
    obtain ⟨n, hn, rfl⟩ := Option.map_eq_some_iff.1 hx
    exact h.nums i n hn
/-- The blocks below a bound are kept. -/
structure KeptTo (N : Nat) (w w' : World) : Prop where
  os : w'.os = w.os
  output : w'.output = w.output
  size : w.heap.size ≤ w'.heap.size
  block : ∀ r, r < N → w'.heap[r]? = w.heap[r]?
theorem KeptTo.refl (N : Nat) (w : World) : KeptTo N w w := ⟨rfl, rfl, Nat.le_refl _, fun _ _ => rfl⟩
theorem KeptTo.trans {N : Nat} {w w1 w2 : World} (h : KeptTo N w w1) (k : KeptTo N w1 w2) : KeptTo N w w2 := ⟨k.os.trans h.os, k.output.trans h.output, Nat.le_trans h.size k.size, fun r hr => (k.block r hr).trans (h.block r hr)⟩
theorem Kept.to {N : Nat} {w w' : World} (h : Kept w w') (hN : N ≤ w.heap.size) : KeptTo N w w' := ⟨h.os, h.output, h.size, fun r hr => h.block r (by omega)⟩
theorem KeptTo.same {N : Nat} {w w1 w2 : World} (h : KeptTo N w w1) (k : Same w1 w2) : KeptTo N w w2 := h.trans ⟨k.os, k.output, by rw [k.heap]; exact Nat.le_refl _, fun r _ => by rw [k.heap]⟩
theorem KeptTo.grown {N : Nat} {w w' : World} {row : Option Nat} (h : w.grownBy w' row) (hN : N ≤ w.heap.size) (hr : ∀ g, row = some g → N ≤ g) : KeptTo N w w' :=
  ⟨h.os, h.output, h.size, fun r hr' => h.block r (by omega) fun e => by have := hr r e.symm; omega⟩
theorem KeptTo.kept {N : Nat} {W w w' : World} (h : Kept W w) (k : KeptTo N w w') (hN : W.heap.size ≤ N) : Kept W w' :=
  ⟨k.os.trans h.os, k.output.trans h.output, Nat.le_trans h.size k.size, fun r hr => (k.block r (by omega)).trans (h.block r hr)⟩
theorem OwnN.to {w w' : World} {base N : Nat} {v : Value} {cs : List Nat} (h : OwnN w base v cs) (k : KeptTo N w w') (hN : ∀ g, v.ownBlock = some g → g < N) : OwnN w' base v cs := by
  refine ⟨h.1, ?_⟩
  rcases h.2 with ⟨e, hn⟩ | ⟨g, cap, cur, e, hb, hg, rest⟩
  · exact .inl ⟨e, hn⟩
  · exact .inr ⟨g, cap, cur, e, hb, by rw [k.block g (hN g (by rw [e]; rfl))]; exact hg, rest⟩
theorem OwnN.lt {w : World} {base : Nat} {v : Value} {cs : List Nat} (h : OwnN w base v cs) : ∀ g, v.ownBlock = some g → base ≤ g ∧ g < w.heap.size := by
  intro g hg
  rcases h.form with ⟨e, _⟩ | ⟨g', cap, e, h1, h2⟩
  · rw [e] at hg; cases hg
  · rw [e] at hg
    injection hg with hg
    subst hg
    exact ⟨h1, h2⟩
theorem OwnN.le {w : World} {base base' : Nat} {v : Value} {cs : List Nat} (h : OwnN w base v cs) (hb : base' ≤ base) : OwnN w base' v cs := ownsRow_le h hb
theorem PolyAt.keptB {w w' : World} {ao : Option Addr} {l : Pts} (h : PolyAt w ao l) (k : Kept w w') : PolyAt w' ao l := fun h0 => by
  obtain ⟨g, off, h1, h2, h3⟩ := h h0
  exact ⟨g, off, h1, h2.heap (k.block g h3), Nat.lt_of_lt_of_le h3 k.size⟩
/-- What stands behind 'lent'. -/
structure S9 (W : World) (ao : Option Addr) (cap : Nat) (l : Pts) (wv inV : Value) (b N : Nat) (w : World) : Prop where
  kept : Kept W w
  n1 : W.heap.size ≤ N
  n2 : N ≤ w.heap.size
  b2 : b < N
  gb : GN ≤ b
  want : OwnN w W.heap.size wv (ansL l)
  wantN : ∀ g, wv.ownBlock = some g → g < N
  blk : w.heap[b]? = some (.cells (flatP (l ++ [(0, 0)])).toArray 23 (0, 0))
  inF : (inV = .slice none 0 0 ∧ l = []) ∨ inV = .slice (some ⟨b, 0, none⟩) l.length (l.length + 1)
  poly : PolyAt W ao l
  cap1 : l.length ≤ cap
  cap2 : cap ≤ 10000000000000
section
variable {W : World} {ao : Option Addr} {cap : Nat} {l : Pts} {wv inV : Value} {b N : Nat} {w w' : World}
theorem S9.to (h : S9 W ao cap l wv inV b N w) (k : KeptTo N w w') : S9 W ao cap l wv inV b N w' :=
  ⟨k.kept h.kept h.n1, h.n1, Nat.le_trans h.n2 k.size, h.b2, h.gb, h.want.to k h.wantN, h.wantN, by rw [k.block b h.b2]; exact h.blk, h.inF, h.poly, h.cap1, h.cap2⟩
theorem S9.all (h : S9 W ao cap l wv inV b N w) : PtsAt w b 0 (l ++ [(0, 0)]) := pts_row h.blk rfl
theorem S9.args (h : S9 W ao cap l wv inV b N w) : PolyAt w ao l := h.poly.keptB h.kept
theorem flatP_ints : ∀ (l : Pts), ∀ x ∈ flatP l, ∃ n, x = .int .i64 n
  | [], x, h => by simp [flatP] at h
  | p :: l, x, h => by
    simp only [flatP, List.mem_cons] at h
    rcases h with rfl | rfl | h
    · exact ⟨_, rfl⟩
    · exact ⟨_, rfl⟩
    · exact flatP_ints l x h
theorem S9.row (h : S9 W ao cap l wv inV b N w) : RowL w inV l := by
  rcases h.inF with ⟨h1, h2⟩ | h1
  · exact .inl ⟨h1, h2⟩
  · refine .inr ⟨b, l.length + 1, _, h1, by omega, h.blk, fun x hx => flatP_ints _ x (by simpa using hx), h.gb, fun i hi => ?_⟩
    have := flatP_get (l ++ [(0, 0)]) i (by simp; omega)
    rw [List.getElem_append_left hi] at this
    simpa using this
end
/-- 'lent', of any list. -/
theorem lent_poly (ao : Option Addr) (cap : Nat) (l : Pts) (w : World) (h : PolyAt w ao l) (hs : cap ≤ 10000000000000) (hc : l.length ≤ cap) (hn : ao = none → cap = 0) :
    Calls Try.prog 26 #[.slice ao l.length cap] w fun e w' => ∃ inV, e = .returned (.tuple #[.slice (some ⟨w.heap.size, 0, none⟩) (l.length + 1) (l.length + 1), inV]) ∧ ((inV = .slice none 0 0 ∧ l = []) ∨ inV = .slice (some ⟨w.heap.size, 0, none⟩) l.length (l.length + 1)) ∧ Hid (Lent w w' l) := by
  cases ao with
  | none =>
    have hcap := hn rfl
    have hl : l = [] := List.eq_nil_of_length_eq_zero (by omega)
    subst hl hcap
    refine (lent_nil w).mono ?_
    rintro e w' ⟨rfl, H⟩
    exact ⟨_, rfl, .inl ⟨rfl, rfl⟩, H⟩
  | some a =>
    refine (lent_some a cap l w h hs hc).mono ?_
    rintro e w' ⟨rfl, H⟩
    exact ⟨_, rfl, .inr rfl, H⟩
theorem Lent.heap {w w1 w2 : World} {l : Pts} (h : Lent w w1 l) (k : Same w1 w2) : w2.heap[w.heap.size]? = some (.cells (flatP (l ++ [(0, 0)])).toArray 23 (0, 0)) := by rw [k.heap]; exact h.row
end Go.Proofs.Ytgeoffpcmkofkaa
/- The walk of Hulls, beside goroutines that only leave. (Made by gen9.py.) -/
namespace Go.Proofs.Ytgeoffpcmkofkaa
open Go Go.Conc Go.RowKit Fl Go.Maps Go.Lib Go.Joins
set_option maxRecDepth 100000
attribute [local go_sem ↓] Go.wp_at_zero Go.wp_at_succ

noncomputable def c9b : Code := match Try.f9.body with
  | some (.seq _ (.seq _ (.seq _ (.seq _ r)))) => r
  | _ => .skip
noncomputable def c9l : Code := match c9b with
  | .seq _ (.seq _ (.seq _ (.seq _ (.seq r _)))) => r
  | _ => .skip
noncomputable def c9c : Code := match c9b with
  | .seq _ (.seq _ (.seq _ (.seq _ (.seq _ r)))) => r
  | _ => .skip
noncomputable def c9s : Code := match c9c with
  | .seq r _ => r
  | _ => .skip
noncomputable def c9d : Code := match c9c with
  | .seq _ r => r
  | _ => .skip
noncomputable def c9r : Code := match c9d with
  | .seq _ r => r
  | _ => .skip
theorem codeP9l : CodeP Try.prog (FSof fsI) c9l := codeP_sound (by kernel_rfl)
theorem codeP9s : CodeP Try.prog (FSof fsI) c9s := codeP_sound (by kernel_rfl)
theorem codeP9r : CodeP Try.prog (FSof fsI) c9r := codeP_sound (by kernel_rfl)
theorem fs30 : FSof fsI 30 := by decide
theorem fs31 : FSof fsI 31 := by decide
theorem fs26 : FSof fsI 26 := by decide
theorem fs28 : FSof fsI 28 := by decide
theorem fs33 : FSof fsI 33 := by decide
theorem OwnN.same {w w' : World} {base : Nat} {v : Value} {cs : List Nat} (h : OwnN w base v cs) (k : Same w w') : OwnN w' base v cs := by
  refine ⟨h.1, ?_⟩
  rcases h.2 with ⟨e, hn⟩ | ⟨g, cap, cur, e, hb, hg, rest⟩
  · exact .inl ⟨e, hn⟩
  · exact .inr ⟨g, cap, cur, e, hb, by rw [k.heap]; exact hg, rest⟩
theorem ownsRow_to {w w' : World} {base N n size : Nat} {e : TypeId} {v : Value} {xs : List Value} (h : w.ownsRow base e size v n xs) (k : KeptTo N w w') (hN : ∀ g, v.ownBlock = some g → g < N) : w'.ownsRow base e size v n xs := by
  refine ⟨h.1, ?_⟩
  rcases h.2 with ⟨e, hn⟩ | ⟨g, cap, cur, e, hb, hg, rest⟩
  · exact .inl ⟨e, hn⟩
  · exact .inr ⟨g, cap, cur, e, hb, by rw [k.block g (hN g (by rw [e]; rfl))]; exact hg, rest⟩
theorem ownsRow_same {w w' : World} {base n size : Nat} {e : TypeId} {v : Value} {xs : List Value} (h : w.ownsRow base e size v n xs) (k : Same w w') : w'.ownsRow base e size v n xs := by
  refine ⟨h.1, ?_⟩
  rcases h.2 with ⟨e, hn⟩ | ⟨g, cap, cur, e, hb, hg, rest⟩
  · exact .inl ⟨e, hn⟩
  · exact .inr ⟨g, cap, cur, e, hb, by rw [k.heap]; exact hg, rest⟩
theorem ownsRow_blk {w : World} {base n size : Nat} {e : TypeId} {v : Value} {xs : List Value} (h : w.ownsRow base e size v n xs) : ∀ g, v.ownBlock = some g → base ≤ g ∧ g < w.heap.size := by
  intro g hg
  rcases h.2 with ⟨e, _⟩ | ⟨g', cap, cur, e, hb, hg', _⟩
  · rw [e] at hg; cases hg
  · rw [e] at hg
    injection hg with hg
    subst hg
    exact ⟨hb, (Array.getElem?_eq_some_iff.1 hg').1⟩
/-- Where a loop stands that writes one number into a row. -/
structure FillI (w0 wr : World) (base n : Nat) (v c : Value) (k : Nat) (xs : List Value) : Prop where
  gr : w0.grownBy wr v.ownBlock
  own : wr.ownsRow base 3 1 v n xs
  done : xs.take k = List.replicate k c
theorem FillI.put {w0 wr : World} {base n g cap : Nat} {c : Value} {k : Nat} {xs : List Value} (h : FillI w0 wr base n (.slice (some ⟨g, 0, none⟩) n cap) c k xs) (hk : k < n) : FillI w0 (wr.setCell ⟨g, k, none⟩ c) base n (.slice (some ⟨g, 0, none⟩) n cap) c (k + 1) (xs.set k c) := by
  have hs := World.ownsRow.stored h.own k c
  refine ⟨h.gr.trans hs.2, hs.1, ?_⟩
  have hx : xs.length = n := by have := h.own.1; omega
  rw [List.take_add_one, List.take_set_of_le (Nat.le_refl _), h.done, List.replicate_succ']
  simp [hx, hk]
theorem FillI.all {w0 wr : World} {base n : Nat} {v c : Value} {xs : List Value} (h : FillI w0 wr base n v c n xs) : wr.ownsRow base 3 1 v n (List.replicate n c) := by
  have h1 := h.done
  have h2 : xs.length = n := by have := h.own.1; omega
  rw [List.take_of_length_le (by omega)] at h1
  rw [← h1]
  exact h.own

/-- Behind the first loop. -/
def QL9 (ao : Option Addr) (cap : Nat) (l : Pts) (wv inV v : Value) (b : Nat) (t20 t21 t22 t23 t24 t25 t26 t27 t28 t29 t30 t31 t32 t33 t34 t35 t36 t37 t38 t39 t40 t41 : Value) (F : World → Prop) (a : Act) (w : World) : Prop :=
  ∃ t11 t42 t43 t44 t45 t46 t47 t48 t49 t50, a = { tmps := #[.slice ao l.length cap, undef, .bool false, .int .i64 (errL l), wv, .slice (some ⟨b, 0, none⟩) (l.length + 1) (l.length + 1), inV, v, .int .i64 (errL l), .bool true, .bool true, t11, undef, undef, undef, undef, undef, undef, undef, undef, t20, t21, t22, t23, t24, t25, t26, t27, t28, t29, t30, t31, t32, t33, t34, t35, t36, t37, t38, t39, t40, t41, t42, t43, t44, t45, t46, t47, t48, t49, t50, undef, undef, undef, undef, undef, undef, undef, undef, undef, undef, undef, undef, undef, undef, undef, undef, undef, undef, undef, undef, undef, undef, undef, undef, undef, undef, undef, undef, undef, undef, undef, undef, undef, undef, undef, undef, undef, undef, undef, undef, undef, undef, undef, undef, undef, undef, undef, undef, undef, undef, undef, undef, undef, undef, undef, undef, undef, undef, undef, undef, undef, undef, undef, undef, undef, undef, undef, undef, undef, undef, undef, undef, undef, undef, undef, undef, undef, undef, undef, undef, undef, undef, undef, undef, undef, undef, undef, undef, undef, undef, undef, undef, undef], defers := [] } ∧ F w
set_option maxHeartbeats 1600000 in
theorem loop9 (ao : Option Addr) (cap : Nat) (l : Pts) (wv inV v : Value) (b base n : Nat) (xs : List Value) (w : World) (ho : w.ownsRow base 3 1 v n xs) (hn : n ≤ 1000000) (F : World → Prop) (hF : ∀ w', w.grownBy w' v.ownBlock → w'.ownsRow base 3 1 v n (List.replicate n (.int .i64 (-1))) → F w') (t20 t21 t22 t23 t24 t25 t26 t27 t28 t29 t30 t31 t32 t33 t34 t35 t36 t37 t38 t39 t40 t41 : Value) :
    c9l.wp Try.prog (fun e a w' => e = .normal ∧ QL9 ao cap l wv inV v b t20 t21 t22 t23 t24 t25 t26 t27 t28 t29 t30 t31 t32 t33 t34 t35 t36 t37 t38 t39 t40 t41 F a w')
      { tmps := #[.slice ao l.length cap, undef, .bool false, .int .i64 (errL l), wv, .slice (some ⟨b, 0, none⟩) (l.length + 1) (l.length + 1), inV, v, .int .i64 (errL l), .bool true, .bool true, undef, undef, undef, undef, undef, undef, undef, undef, undef, t20, t21, t22, t23, t24, t25, t26, t27, t28, t29, t30, t31, t32, t33, t34, t35, t36, t37, t38, t39, t40, t41, undef, undef, undef, undef, undef, undef, undef, undef, undef, undef, undef, undef, undef, undef, undef, undef, undef, undef, undef, undef, undef, undef, undef, undef, undef, undef, undef, undef, undef, undef, undef, undef, undef, undef, undef, undef, undef, undef, undef, undef, undef, undef, undef, undef, undef, undef, undef, undef, undef, undef, undef, undef, undef, undef, undef, undef, undef, undef, undef, undef, undef, undef, undef, undef, undef, undef, undef, undef, undef, undef, undef, undef, undef, undef, undef, undef, undef, undef, undef, undef, undef, undef, undef, undef, undef, undef, undef, undef, undef, undef, undef, undef, undef, undef, undef, undef, undef, undef, undef, undef, undef, undef], defers := [] } w := by
  simp only [c9l, c9b, Try.f9]
  obtain ⟨ad, cp, hv⟩ : ∃ ad cp, v = .slice ad n cp := by
    rcases ownsRow_forms ho with ⟨h1, h2⟩ | ⟨g, cp, h1⟩
    · exact ⟨none, 0, by rw [h1, h2]⟩
    · exact ⟨_, cp, h1⟩
  have HO : Hid (FillI w w base n v (.int .i64 (-1)) 0 xs) := ⟨World.grownBy.refl _ _, ho, rfl⟩
  have HFF : Hid (∀ w', w.grownBy w' v.ownBlock → w'.ownsRow base 3 1 v n (List.replicate n (.int .i64 (-1))) → F w') := hF
  clear ho hF
  subst hv
  go_wp2_with fail
  go_loopw [11] (fun i wr => ∃ (k : Nat) (ys : List Value), i = .int .i64 (k : Int) ∧ k ≤ n ∧ Hid (FillI w wr base n (.slice ad n cp) (.int .i64 (-1)) k ys)) (fun i _ => n - (intOf i).toNat)
  case atStart => exact ⟨0, _, rfl, Nat.zero_le _, HO⟩
  case round =>
    obtain ⟨k, ys, rfl, hk, H⟩ := hrel
    rcases Nat.lt_or_ge k n with hk' | hk'
    · obtain ⟨g, cp', e⟩ := ownsRow_form H.out.own (by omega)
      injection e with e1 _ e3
      subst e1 e3
      have i0 : (0 : Int) ≤ (k : Int) := by omega
      have i1 : (k : Int) < (n : Int) := by omega
      have hw1 : IntKind.i64.wrap ((k : Int) + 1) = (k : Int) + 1 := by rw [IntKind.wrap_i64]; omega
      obtain ⟨xk, hxk⟩ : ∃ xk, ys[k]? = some xk := ⟨_, List.getElem?_eq_getElem (show k < ys.length by have := H.out.own.1; omega)⟩
      have f1 := World.ownsRow.frozenAt H.out.own k
      have f2 : wr.cell? ⟨g, k, none⟩ = some xk := (World.ownsRow.cellAt H.out.own k (by omega)).trans hxk
      have HF := H.out.put hk'
      have HF : Hid (FillI w (wr.setCell ⟨g, k, none⟩ (.int .i64 (-1))) base n (.slice (some ⟨g, 0, none⟩) n cp) (.int .i64 (-1)) (k + 1) (ys.set k (.int .i64 (-1)))) := HF
      clear hxk
      go_wp2_with fail
      go_roundw
      case rel => exact ⟨k + 1, _, by go_num, hk', HF⟩
      case measure => simp [intOf]; omega
    · have e : k = n := by omega
      subst e
      go_wp2_with fail
      exact ⟨_, _, _, _, _, _, _, _, _, _, rfl, HFF.out _ H.out.gr H.out.all⟩

/-- One number behind the other. -/
theorem push2 {wr : World} {base n : Nat} {v : Value} {xs : List Value} (x y : Int) (ho : wr.ownsRow base 3 1 v n xs) (hb : base ≤ wr.heap.size) (hn : n ≤ 1000000) :
    ∃ vk wk, (Builtin.append_ #[46, 46] 46 #[v, .slice (some ⟨wr.heap.size, 0, none⟩) 2 2]).run Try.prog (wr.alloc (.cells #[.int .i64 x, .int .i64 y] 3)) = .ok vk wk ∧ Hid (wr.grownBy wk v.ownBlock ∧ wk.ownsRow base 3 1 vk (n + 2) (xs ++ [.int .i64 x, .int .i64 y])) := by
  obtain ⟨i0, hi0, hz0, hz1, hz2⟩ := info_parts Try.info3
  obtain ⟨vk, wk, k1, k2, k3, k4⟩ := run_append_own (P := Try.prog) (wr.alloc (.cells #[.int .i64 x, .int .i64 y] 3)) base 46 46 3 i0 _ 1 8 Try.underlying46 hi0 hz0 hz1 hz2 rfl (by omega) v n xs (ho.alloc _) ⟨wr.heap.size, 0, none⟩ 2 2 [.int .i64 x, .int .i64 y] rfl
    (World.news_of_block (cs := #[.int .i64 x, .int .i64 y]) (t := 3) (fr := (0, 0)) (heap_alloc_new wr _)) (by simp [Value.oneCell']) (by unfold maxLen; omega) (by omega) (by simp; omega)
  exact ⟨vk, wk, k1, ((New.alloc wr _).but _).trans k3, k2⟩
def QS9 (ao : Option Addr) (cap : Nat) (l : Pts) (wv inV v : Value) (b : Nat) (t11 t20 t21 t22 t23 t24 t25 t26 t27 t28 t29 t30 t31 t32 t33 t34 t35 t36 t37 t38 t39 t40 t41 t42 t43 t44 t45 t46 t47 t48 t49 t50 : Value) (F : Value → World → Prop) (a : Act) (w : World) : Prop :=
  ∃ vg t51 t52 t53, a = { tmps := #[.slice ao l.length cap, undef, .bool false, .int .i64 (errL l), wv, .slice (some ⟨b, 0, none⟩) (l.length + 1) (l.length + 1), inV, v, .int .i64 (errL l), .bool true, .bool true, t11, vg, undef, undef, undef, undef, undef, undef, undef, t20, t21, t22, t23, t24, t25, t26, t27, t28, t29, t30, t31, t32, t33, t34, t35, t36, t37, t38, t39, t40, t41, t42, t43, t44, t45, t46, t47, t48, t49, t50, t51, t52, t53, undef, undef, undef, undef, undef, undef, undef, undef, undef, undef, undef, undef, undef, undef, undef, undef, undef, undef, undef, undef, undef, undef, undef, undef, undef, undef, undef, undef, undef, undef, undef, undef, undef, undef, undef, undef, undef, undef, undef, undef, undef, undef, undef, undef, undef, undef, undef, undef, undef, undef, undef, undef, undef, undef, undef, undef, undef, undef, undef, undef, undef, undef, undef, undef, undef, undef, undef, undef, undef, undef, undef, undef, undef, undef, undef, undef, undef, undef, undef, undef, undef, undef, undef, undef, undef, undef, undef, undef, undef, undef], defers := [] } ∧ F vg w
set_option maxHeartbeats 800000 in
theorem seg9 (ao : Option Addr) (cap : Nat) (l : Pts) (wv inV v : Value) (b base n : Nat) (xs : List Value) (w : World) (ho : w.ownsRow base 3 1 v n xs) (hb : base ≤ w.heap.size) (hn : n ≤ 1000000) (F : Value → World → Prop) (hF : ∀ vg w', w.grownBy w' v.ownBlock → w'.ownsRow base 3 1 vg (n + 2) (xs ++ [.int .i64 (-2), .int .i64 (-3)]) → F vg w') (t11 t20 t21 t22 t23 t24 t25 t26 t27 t28 t29 t30 t31 t32 t33 t34 t35 t36 t37 t38 t39 t40 t41 t42 t43 t44 t45 t46 t47 t48 t49 t50 : Value) :
    c9s.wp Try.prog (fun e a w' => e = .normal ∧ QS9 ao cap l wv inV v b t11 t20 t21 t22 t23 t24 t25 t26 t27 t28 t29 t30 t31 t32 t33 t34 t35 t36 t37 t38 t39 t40 t41 t42 t43 t44 t45 t46 t47 t48 t49 t50 F a w')
      { tmps := #[.slice ao l.length cap, undef, .bool false, .int .i64 (errL l), wv, .slice (some ⟨b, 0, none⟩) (l.length + 1) (l.length + 1), inV, v, .int .i64 (errL l), .bool true, .bool true, t11, undef, undef, undef, undef, undef, undef, undef, undef, t20, t21, t22, t23, t24, t25, t26, t27, t28, t29, t30, t31, t32, t33, t34, t35, t36, t37, t38, t39, t40, t41, t42, t43, t44, t45, t46, t47, t48, t49, t50, undef, undef, undef, undef, undef, undef, undef, undef, undef, undef, undef, undef, undef, undef, undef, undef, undef, undef, undef, undef, undef, undef, undef, undef, undef, undef, undef, undef, undef, undef, undef, undef, undef, undef, undef, undef, undef, undef, undef, undef, undef, undef, undef, undef, undef, undef, undef, undef, undef, undef, undef, undef, undef, undef, undef, undef, undef, undef, undef, undef, undef, undef, undef, undef, undef, undef, undef, undef, undef, undef, undef, undef, undef, undef, undef, undef, undef, undef, undef, undef, undef, undef, undef, undef, undef, undef, undef, undef, undef, undef, undef, undef, undef], defers := [] } w := by
  simp only [c9s, c9c, c9b, Try.f9]
  obtain ⟨vk, wk, k1, R⟩ := push2 (-2) (-3) ho hb hn
  have HFF : Hid (F vk wk) := hF vk wk R.out.1 R.out.2
  clear ho hF R
  go_wp2_with (first | (at_builtin; refine Go.Lib.wpList_append_run _ rfl _ _ 46 46 rfl _ _ rfl rfl vk wk k1 ?_) | go_in)
  exact ⟨_, _, _, _, rfl, HFF.out⟩

end Go.Proofs.Ytgeoffpcmkofkaa
/- The end of Hulls. (Made by gen9.py.) -/
namespace Go.Proofs.Ytgeoffpcmkofkaa
open Go Go.Conc Go.RowKit Fl Go.Maps Go.Lib Go.Joins
set_option maxRecDepth 100000
attribute [local go_sem ↓] Go.wp_at_zero Go.wp_at_succ

theorem rep_get {n k : Nat} {c : Value} {r : List Value} (h : k < n) : (List.replicate n c ++ r)[k]? = some c := by
  rw [List.getElem?_append_left (by simpa using h)]
  simp [h]
theorem rep_last {n : Nat} {c x y : Value} : (List.replicate n c ++ [x, y])[n + 1]? = some y := by
  rw [List.getElem?_append_right (by simp)]
  simp
set_option maxHeartbeats 3200000 in
theorem rest9 (W : World) (ao : Option Addr) (cap : Nat) (l : Pts) (wv inV v vg vk : Value) (b N B : Nat) (w : World) (hS : S9 W ao cap l wv inV b N w) (hNB : N ≤ B)
    (hg : w.ownsRow N 3 1 vg ((ansL l).length + 2) (List.replicate (ansL l).length (.int .i64 (-1)) ++ [.int .i64 (-2), .int .i64 (-3)])) (hgB : ∀ g, vg.ownBlock = some g → g < B) (hB : B ≤ w.heap.size) (hk : OwnN w B vk (ansL l)) (t11 t20 t21 t22 t23 t24 t25 t26 t27 t28 t29 t30 t31 t32 t33 t34 t35 t36 t37 t38 t39 t40 t41 t42 t43 t44 t45 t46 t47 t48 t49 t50 t51 t52 t53 t54 t55 t56 t57 t58 : Value) :
    c9r.wp Try.prog (fun e a w' => (e = .normal ∨ e = .ret) ∧ a.tmps.getD 2 undef = .bool true ∧ Hid (Kept W w'))
      { tmps := #[.slice ao l.length cap, undef, .bool false, .int .i64 (errL l), wv, .slice (some ⟨b, 0, none⟩) (l.length + 1) (l.length + 1), inV, v, .int .i64 (errL l), .bool true, .bool true, t11, vg, vk, .int .i64 (errL l), undef, undef, undef, undef, undef, t20, t21, t22, t23, t24, t25, t26, t27, t28, t29, t30, t31, t32, t33, t34, t35, t36, t37, t38, t39, t40, t41, t42, t43, t44, t45, t46, t47, t48, t49, t50, t51, t52, t53, t54, t55, t56, t57, t58, undef, undef, undef, undef, undef, undef, undef, undef, undef, undef, undef, undef, undef, undef, undef, undef, undef, undef, undef, undef, undef, undef, undef, undef, undef, undef, undef, undef, undef, undef, undef, undef, undef, undef, undef, undef, undef, undef, undef, undef, undef, undef, undef, undef, undef, undef, undef, undef, undef, undef, undef, undef, undef, undef, undef, undef, undef, undef, undef, undef, undef, undef, undef, undef, undef, undef, undef, undef, undef, undef, undef, undef, undef, undef, undef, undef, undef, undef, undef, undef, undef, undef, undef, undef, undef], defers := [] } w := by
  simp only [c9r, c9d, c9c, c9b, Try.f9]
  have hlen := ansL_len l
  obtain ⟨n, hn⟩ : ∃ n, n = (ansL l).length := ⟨_, rfl⟩
  obtain ⟨a2, c2, e2, hI2⟩ := hk.ints
  obtain ⟨aw, cw, e4, hIw⟩ := hS.want.ints
  obtain ⟨gg, cg, eg⟩ := ownsRow_form hg (by omega)
  have hx : ((ansL l).map fun (n : Nat) => (n : Int)).length = n := by rw [List.length_map, hn]
  rw [hx] at e2 e4
  rw [← hn] at hg eg hlen
  have HI : Hid (IntsAt w a2 ((ansL l).map fun (n : Nat) => (n : Int)) ∧ IntsAt w aw ((ansL l).map fun (n : Nat) => (n : Int))) := ⟨hI2, hIw⟩
  have HK : Hid (w.ownsRow B 3 1 (.slice a2 n c2) n ((ansL l).map fun (n : Nat) => Value.int .i64 (n : Int))) := by rw [← e2, hn]; exact hk
  have HS : Hid (S9 W ao cap l wv inV b N w ∧ N ≤ B ∧ B ≤ w.heap.size ∧ (∀ g, vg.ownBlock = some g → g < B)) := ⟨hS, hNB, hB, hgB⟩
  have HG : Hid (w.ownsRow N 3 1 vg (n + 2) (List.replicate n (.int .i64 (-1)) ++ [.int .i64 (-2), .int .i64 (-3)])) := hg
  have HX : Hid (((ansL l).map fun (n : Nat) => (n : Int)).length = n) := hx
  clear hI2 hIw hk hS hg hNB hB hgB hx hn
  subst e2 e4 eg
  go_wp2_with fail
  have hcall := sameInts_eq a2 aw c2 cw ((ansL l).map fun (n : Nat) => (n : Int)) w HI.out.1 HI.out.2 (by rw [HX.out]; omega)
  rw [HX.out] at hcall
  refine hcall.mono ?_
  rintro e w1 ⟨rfl, H1⟩
  clear hcall
  have H0 : Hid (FillI w1 w1 B n (.slice a2 n c2) (.int .i64 (-4)) 0 ((ansL l).map fun (n : Nat) => Value.int .i64 (n : Int))) := ⟨World.grownBy.refl _ _, World.ownsRow.kept HK.out H1.out (by cases (Value.slice a2 n c2).ownBlock <;> simp), rfl⟩
  go_wp2_with fail
  go_loopw [16] (fun i wr => ∃ (k : Nat) (ys : List Value), i = .int .i64 (k : Int) ∧ k ≤ n ∧ Hid (FillI w1 wr B n (.slice a2 n c2) (.int .i64 (-4)) k ys)) (fun i _ => n - (intOf i).toNat)
  case atStart => exact ⟨0, _, rfl, Nat.zero_le _, H0⟩
  case round =>
    obtain ⟨k, ys, rfl, hk, H⟩ := hrel
    rcases Nat.lt_or_ge k n with hk' | hk'
    · obtain ⟨g, cp', e⟩ := ownsRow_form H.out.own (by omega)
      injection e with e1 _ e3
      subst e1 e3
      have i0 : (0 : Int) ≤ (k : Int) := by omega
      have i1 : (k : Int) < (n : Int) := by omega
      have hw1 : IntKind.i64.wrap ((k : Int) + 1) = (k : Int) + 1 := by rw [IntKind.wrap_i64]; omega
      obtain ⟨xk, hxk⟩ : ∃ xk, ys[k]? = some xk := ⟨_, List.getElem?_eq_getElem (show k < ys.length by have := H.out.own.1; omega)⟩
      have f1 := World.ownsRow.frozenAt H.out.own k
      have f2 : wr.cell? ⟨g, k, none⟩ = some xk := (World.ownsRow.cellAt H.out.own k (by omega)).trans hxk
      have HF := H.out.put hk'
      have HF : Hid (FillI w1 (wr.setCell ⟨g, k, none⟩ (.int .i64 (-4))) B n (.slice (some ⟨g, 0, none⟩) n c2) (.int .i64 (-4)) (k + 1) (ys.set k (.int .i64 (-4)))) := HF
      clear hxk
      go_wp2_with fail
      go_roundw
      case rel => exact ⟨k + 1, _, by go_num, hk', HF⟩
      case measure => simp [intOf]; omega
    · have e : k = n := by omega
      subst e
      have hsz : w.heap.size ≤ wr.heap.size := Nat.le_trans H1.out.size H.out.gr.size
      obtain ⟨vj, wj, k1, R⟩ := push2 (-5) (-6) H.out.all (by have := HS.out.2.2.1; omega) (by omega)
      have HT : Hid (KeptTo B w wj) := ((KeptTo.grown H1.out (HS.out.2.2.1) (by simp)).trans (KeptTo.grown H.out.gr (Nat.le_trans HS.out.2.2.1 H1.out.size) fun g hg => (ownsRow_blk HK.out g hg).1)).trans (KeptTo.grown R.out.1 (Nat.le_trans HS.out.2.2.1 hsz) fun g hg => (ownsRow_blk HK.out g hg).1)
      have HSj : Hid (S9 W ao cap l (.slice aw k cw) inV b N wj) := HS.out.1.to ⟨HT.out.os, HT.out.output, HT.out.size, fun r hr => HT.out.block r (by have := HS.out.2.1; omega)⟩
      have hgj := ownsRow_to HG.out HT.out HS.out.2.2.2
      obtain ⟨gj, cj, ej⟩ := ownsRow_form R.out.2 (by omega)
      have hj := R.out.2
      subst ej
      have G1 : Hid (∀ m, m < k → wj.cell? ⟨gg, m, none⟩ = some (.int .i64 (-1)) ∧ wj.cell? ⟨gj, m, none⟩ = some (.int .i64 (-4))) := fun m hm => ⟨(World.ownsRow.cellAt hgj m (by omega)).trans (rep_get hm), (World.ownsRow.cellAt hj m (by omega)).trans (rep_get hm)⟩
      have g2 : wj.cell? ⟨gg, k + 1, none⟩ = some (.int .i64 (-3)) := (World.ownsRow.cellAt hgj (k + 1) (by omega)).trans rep_last
      have g3 : wj.cell? ⟨gj, k + 1, none⟩ = some (.int .i64 (-6)) := (World.ownsRow.cellAt hj (k + 1) (by omega)).trans rep_last
      have G2 : Hid (wj.cell? ⟨gg, k + 1, none⟩ = some (.int .i64 (-3)) ∧ wj.cell? ⟨gj, k + 1, none⟩ = some (.int .i64 (-6))) := ⟨g2, g3⟩
      clear hgj hj g2 g3
      go_wp2_with (first | (at_builtin; refine Go.Lib.wpList_append_run _ rfl _ _ 46 46 rfl _ _ rfl rfl _ wj k1 ?_) | go_in)
      go_loopw [18] (fun i wr => ∃ m : Nat, i = .int .i64 (m : Int) ∧ m ≤ k + 2 ∧ wj = wr) (fun i _ => k + 2 - (intOf i).toNat)
      case atStart => exact ⟨0, rfl, Nat.zero_le _, rfl⟩
      case round =>
        obtain ⟨m, rfl, hm, rfl⟩ := hrel
        have hw1 : IntKind.i64.wrap ((m : Int) + 1) = (m : Int) + 1 := by rw [IntKind.wrap_i64]; omega
        rcases Nat.lt_or_ge m (k + 2) with hm' | hm'
        · have i1 : (m : Int) < (k : Int) + 2 := by omega
          rcases Nat.lt_or_ge m k with hmk | hmk
          · have i0 : (0 : Int) ≤ (m : Int) := by omega
            have i2 : (m : Int) < (k : Int) := by omega
            obtain ⟨x1, x2⟩ := G1.out m hmk
            go_wp2_with fail
            go_roundw
            case rel => exact ⟨m + 1, by go_num, hm', trivial⟩
            case measure => simp [intOf]; omega
          · have i2 : ¬(m : Int) < (k : Int) := by omega
            go_wp2_with fail
            go_roundw
            case rel => exact ⟨m + 1, by go_num, hm', trivial⟩
            case measure => simp [intOf]; omega
        · have e : m = k + 2 := by omega
          subst e
          go_wp2_with fail
          refine (back_any b ao cap l wj HSj.out.all HSj.out.args HSj.out.cap2 HSj.out.cap1).mono ?_
          rintro e w5 ⟨rfl, H5⟩
          have x1 := H5.out.kept' G2.out.1
          have x2 := H5.out.kept' G2.out.2
          have j1 : ¬(k : Int) + 2 < 2 := by omega
          have j2 : IntKind.i64.wrap ((k : Int) + 2 - 1) = (k : Int) + 1 := by rw [IntKind.wrap_i64]; omega
          have j3 : (0 : Int) ≤ (k : Int) + 1 := by omega
          have j4 : (k : Int) + 1 < (k : Int) + 2 := by omega
          have j5 : ((k : Int) + 1).toNat = k + 1 := by omega
          go_wp2_with fail
          exact ((HSj.out.to (KeptTo.grown H5.out HSj.out.n2 (by simp))).kept)

end Go.Proofs.Ytgeoffpcmkofkaa
