/- Na; Nb; Nc; Nd: texts laid into one. -/
import Derived.Test.YtgeoffpcmkofkaaQaf
import Derived.Test.YtgeoffpcmkofkaaQbg
/- plumbref's 'First'. -/
namespace Go.Proofs.Ytgeoffpcmkofkaa
open Go.RowKit Fl
set_option maxRecDepth 100000
attribute [local go_sem ↓] Go.wp_at_zero Go.wp_at_succ

/-- None ahead of it is the same. -/
def firstB (l : Pts) (i : Nat) : Bool := decide (∀ k, k < i → l[k]? ≠ l[i]?)
set_option maxHeartbeats 1600000 in
theorem refFirst_any (g off cap : Nat) (l : Pts) (i : Nat) (w : World) (hp : PtsAt w g off l) (hg : g < w.heap.size) (hl : l.length ≤ 1000000) (hi : i < l.length) :
    Calls Try.prog 68 #[.slice (some ⟨g, off, none⟩) l.length cap, .int .i64 (i : Int)] w fun e w' => e = .returned (.bool (firstB l i)) ∧ Hid (New w w') := by
  have HP : Hid (PtsAt w g off l ∧ g < w.heap.size) := ⟨hp, hg⟩
  clear hp hg
  obtain ⟨q, hq⟩ : ∃ q, q = l[i] := ⟨_, rfl⟩
  have HI : Hid (l[i]? = some q) := by rw [Hid, hq]; exact List.getElem?_eq_getElem hi
  have HQ : Hid (∀ V, New w V → V.cell? ⟨g, off + i * 2, none⟩ = some (.int .i64 q.1) ∧ V.cell? ⟨g, off + i * 2 + 1, none⟩ = some (.int .i64 q.2)) := fun V hV => by
    have := HP.out.1.kept HP.out.2 hV i hi
    rw [← hq] at this
    exact this
  have b0 : (0 : Int) ≤ (i : Int) := by omega
  have b1 : (i : Int) < (l.length : Int) := by omega
  clear hq
  go_enter Try.func68, Try.ntmps68
  go_wp2_with fail
  go_loopw [5] (fun v wr => ∃ k : Nat, v = .int .i64 (k : Int) ∧ k ≤ i ∧ Hid (New w wr ∧ ∀ k', k' < k → l[k']? ≠ l[i]?)) (fun v _ => i - (intOf v).toNat)
  case atStart => exact ⟨0, rfl, Nat.zero_le _, New.refl _, fun k' h => by omega⟩
  case round =>
    obtain ⟨k, rfl, hk, H⟩ := hrel
    rcases Nat.lt_or_ge k i with hk' | hk'
    · obtain ⟨p, hpe⟩ : ∃ p, p = l[k] := ⟨_, rfl⟩
      have HK : Hid (l[k]? = some p) := by rw [Hid, hpe]; exact List.getElem?_eq_getElem (by omega)
      have HQ' : Hid (∀ V, New wr V → V.cell? ⟨g, off + k * 2, none⟩ = some (.int .i64 p.1) ∧ V.cell? ⟨g, off + k * 2 + 1, none⟩ = some (.int .i64 p.2) ∧ V.cell? ⟨g, off + i * 2, none⟩ = some (.int .i64 q.1) ∧ V.cell? ⟨g, off + i * 2 + 1, none⟩ = some (.int .i64 q.2)) := fun V hV => by
        have h1 := HP.out.1.kept HP.out.2 (H.out.1.trans' hV) k (by omega)
        rw [← hpe] at h1
        exact ⟨h1.1, h1.2, HQ.out V (H.out.1.trans' hV)⟩
      clear hpe
      have c0 : (0 : Int) ≤ (k : Int) := by omega
      have c1 : (k : Int) < (l.length : Int) := by omega
      have c2 : (k : Int) < (i : Int) := by omega
      have hw1 : IntKind.i64.wrap ((k : Int) + 1) = (k : Int) + 1 := by rw [IntKind.wrap_i64]; omega
      have HW : Hid (New wr wr.drew) := (New.refl _).dr
      go_wp2_with fail
      go_region_held3 (fun V => V.cell? ⟨g, off + k * 2, none⟩ = some (.int .i64 p.1) ∧ V.cell? ⟨g, off + k * 2 + 1, none⟩ = some (.int .i64 p.2) ∧ V.cell? ⟨g, off + i * 2, none⟩ = some (.int .i64 q.1) ∧ V.cell? ⟨g, off + i * 2 + 1, none⟩ = some (.int .i64 q.2))
        (first | exact HQ'.out _ HW.out)
        (first | (go_at_call 49; refine (same_any p.1 p.2 q.1 q.2 _).mono ?_; rintro e w3 ⟨rfl, H3⟩; replace HW : Hid (New wr w3) := HW.out.trans' H3.out; clear H3))
      cases hs : sameB (p.1, p.2) (q.1, q.2) with
      | true =>
        have HF : Hid (firstB l i = false) := decide_eq_false fun h => h k hk' (by rw [HK.out, HI.out]; congr 1; exact of_decide_eq_true hs)
        go_wp2_with fail
        go_ret
        exact ⟨by rw [HF.out]; rfl, H.out.1.trans' HW.out⟩
      | false =>
        have HS : Hid (p ≠ q) := of_decide_eq_false hs
        go_wp2_with fail
        go_roundw
        case rel =>
          refine ⟨k + 1, by go_num, hk', H.out.1.trans' HW.out, fun k' hlt => ?_⟩
          rcases Nat.lt_or_ge k' k with h | h
          · exact H.out.2 k' h
          · have : k' = k := by omega
            subst this
            rw [HK.out, HI.out]
            intro e
            injection e with e
            exact HS.out e
        case measure => simp [intOf]; omega
    · have e : k = i := by omega
      subst e
      have HF : Hid (firstB l k = true) := decide_eq_true H.out.2
      go_wp2_with fail
      go_ret
      exact ⟨by rw [HF.out]; rfl, H.out.1⟩
end Go.Proofs.Ytgeoffpcmkofkaa
/- plumbref's 'corner'. -/
namespace Go.Proofs.Ytgeoffpcmkofkaa
open Go.RowKit Fl
set_option maxRecDepth 100000
attribute [local go_sem ↓] Go.wp_at_zero Go.wp_at_succ

/-- From q towards p, r lies to the left or the same way. -/
def okJ (q p r : Pt) : Bool := decide (0 ≤ D q p r) && (!(decide (D q p r = 0) && onB p r q) || sameB r q)
def goodK (l : Pts) (q p : Pt) : Bool := !sameB p q && l.all (okJ q p)
def cornerB (l : Pts) (i : Nat) : Bool := match l[i]? with
  | some q => firstB l i && l.any (goodK l q)
  | none => false
/-- The cells of three points. -/
structure C3 (V : World) (g off i k j : Nat) (q p r : Pt) : Prop where
  q0 : V.cell? ⟨g, off + i * 2, none⟩ = some (.int .i64 q.1)
  q1 : V.cell? ⟨g, off + i * 2 + 1, none⟩ = some (.int .i64 q.2)
  p0 : V.cell? ⟨g, off + k * 2, none⟩ = some (.int .i64 p.1)
  p1 : V.cell? ⟨g, off + k * 2 + 1, none⟩ = some (.int .i64 p.2)
  r0 : V.cell? ⟨g, off + j * 2, none⟩ = some (.int .i64 r.1)
  r1 : V.cell? ⟨g, off + j * 2 + 1, none⟩ = some (.int .i64 r.2)
theorem all_take {l : Pts} {f : Pt → Bool} {j : Nat} {r : Pt} (h : l[j]? = some r) : (l.take (j + 1)).all f = ((l.take j).all f && f r) := by
  rw [List.take_add_one, h]
  simp
theorem any_take {l : Pts} {f : Pt → Bool} {j : Nat} {r : Pt} (h : l[j]? = some r) : (l.take (j + 1)).any f = ((l.take j).any f || f r) := by
  rw [List.take_add_one, h]
  simp
theorem all_short {l : Pts} {f : Pt → Bool} {j : Nat} (h : (l.take j).all f = false) : l.all f = false := by
  rw [Bool.eq_false_iff] at h ⊢
  intro h2
  apply h
  rw [List.all_eq_true] at h2 ⊢
  exact fun x hx => h2 x (List.mem_of_mem_take hx)

set_option maxHeartbeats 3200000 in
theorem corner_any (g off cap : Nat) (l : Pts) (i : Nat) (w : World) (hp : PtsAt w g off l) (hg : g < w.heap.size) (hl : l.length ≤ 1000000) (hi : i < l.length) (hc : ∀ x ∈ l, CdP x) :
    Calls Try.prog 52 #[.slice (some ⟨g, off, none⟩) l.length cap, .int .i64 (i : Int)] w fun e w' => e = .returned (.bool (cornerB l i)) ∧ Hid (New w w') := by
  have HP : Hid (PtsAt w g off l ∧ g < w.heap.size ∧ ∀ x ∈ l, CdP x) := ⟨hp, hg, hc⟩
  clear hp hg hc
  obtain ⟨q, hq⟩ : ∃ q, q = l[i] := ⟨_, rfl⟩
  have HI : Hid (l[i]? = some q ∧ CdP q ∧ cornerB l i = (firstB l i && l.any (goodK l q))) := by
    have h1 : l[i]? = some q := by rw [hq]; exact List.getElem?_eq_getElem hi
    exact ⟨h1, by rw [hq]; exact HP.out.2.2 _ (List.getElem_mem hi), by unfold cornerB; rw [h1]⟩
  have b0 : (0 : Int) ≤ (i : Int) := by omega
  have b1 : (i : Int) < (l.length : Int) := by omega
  clear hq
  go_enter Try.func52, Try.ntmps52
  go_wp2_with fail
  refine (refFirst_any g off cap l i w HP.out.1 HP.out.2.1 hl hi).mono ?_
  rintro e w1 ⟨rfl, H1⟩
  cases hf : firstB l i with
  | false =>
    have HF : Hid (cornerB l i = false) := by rw [Hid, HI.out.2.2, hf]; rfl
    go_wp2_with fail
    go_ret
    exact ⟨by rw [HF.out]; rfl, H1.out⟩
  | true =>
    have HF : Hid (cornerB l i = l.any (goodK l q)) := by rw [Hid, HI.out.2.2, hf]; rfl
    clear hf
    go_wp2_with fail
    go_loopw [6] (fun v wr => ∃ k : Nat, v = .int .i64 (k : Int) ∧ k ≤ l.length ∧ Hid (New w wr ∧ (l.take k).any (goodK l q) = false)) (fun v _ => l.length - (intOf v).toNat)
    case atStart => exact ⟨0, rfl, Nat.zero_le _, H1.out, rfl⟩
    case round =>
      obtain ⟨k, rfl, hk, H⟩ := hrel
      rcases Nat.lt_or_ge k l.length with hk' | hk'
      · obtain ⟨p, hpe⟩ : ∃ p, p = l[k] := ⟨_, rfl⟩
        have HK : Hid (l[k]? = some p ∧ CdP p) := ⟨by rw [hpe]; exact List.getElem?_eq_getElem hk', by rw [hpe]; exact HP.out.2.2 _ (List.getElem_mem hk')⟩
        have HC : Hid (∀ V, New wr V → ∀ j r, l[j]? = some r → C3 V g off i k j q p r) := fun V hV j r hr => by
          have hN := H.out.1.trans' hV
          have f : ∀ n x, l[n]? = some x → V.cell? ⟨g, off + n * 2, none⟩ = some (.int .i64 x.1) ∧ V.cell? ⟨g, off + n * 2 + 1, none⟩ = some (.int .i64 x.2) := fun n x hx => by
            obtain ⟨hn, rfl⟩ := List.getElem?_eq_some_iff.1 hx
            have := HP.out.1.kept HP.out.2.1 hN n hn
            exact this
          have f1 := f i q HI.out.1
          have f2 := f k p HK.out.1
          have f3 := f j r hr
          exact ⟨f1.1, f1.2, f2.1, f2.2, f3.1, f3.2⟩
        clear hpe
        have c0 : (0 : Int) ≤ (k : Int) := by omega
        have c1 : (k : Int) < (l.length : Int) := by omega
        have hw1 : IntKind.i64.wrap ((k : Int) + 1) = (k : Int) + 1 := by rw [IntKind.wrap_i64]; omega
        have HW : Hid (New wr wr.drew) := (New.refl _).dr
        go_wp2_with fail
        go_region_held3 (fun V => V.cell? ⟨g, off + k * 2, none⟩ = some (.int .i64 p.1) ∧ V.cell? ⟨g, off + k * 2 + 1, none⟩ = some (.int .i64 p.2) ∧ V.cell? ⟨g, off + i * 2, none⟩ = some (.int .i64 q.1) ∧ V.cell? ⟨g, off + i * 2 + 1, none⟩ = some (.int .i64 q.2))
          (first | (have t := HC.out _ HW.out i q HI.out.1; exact ⟨t.p0, t.p1, t.q0, t.q1⟩))
          (first | (go_at_call 49; refine (same_any p.1 p.2 q.1 q.2 _).mono ?_; rintro e w3 ⟨rfl, H3⟩; replace HW : Hid (New wr w3) := HW.out.trans' H3.out; clear H3))
        cases hs : sameB (p.1, p.2) (q.1, q.2) with
        | true =>
          have HS : Hid ((l.take (k + 1)).any (goodK l q) = false) := by
            rw [Hid, any_take HK.out.1, H.out.2]
            unfold goodK
            rw [show sameB p q = true from hs]
            rfl
          go_wp2_with fail
          go_roundw
          case rel => exact ⟨k + 1, by go_num, hk', H.out.1.trans' HW.out, HS.out⟩
          case measure => simp [intOf]; omega
        | false =>
          have HS : Hid (sameB p q = false) := hs
          clear hs
          go_wp2_with fail
          go_loopw [8, 9] (fun u v w4 => ∃ (b : Bool) (j : Nat), u = .bool b ∧ v = .int .i64 (j : Int) ∧ j ≤ l.length ∧ Hid (New wr w4 ∧ b = (l.take j).all (okJ q p))) (fun _ v _ => l.length - (intOf v).toNat)
          case atStart => exact ⟨true, 0, rfl, rfl, Nat.zero_le _, HW.out, rfl⟩
          case round =>
            obtain ⟨b, j, rfl, rfl, hj, HJ⟩ := hrel
            rcases Nat.lt_or_ge j l.length with hj' | hj'
            · have d1 : (j : Int) < (l.length : Int) := by omega
              cases b with
              | false =>
                have HA : Hid ((l.take (k + 1)).any (goodK l q) = false) := by
                  rw [Hid, any_take HK.out.1, H.out.2]
                  unfold goodK
                  rw [all_short HJ.out.2.symm]
                  simp
                go_wp2_with fail
                go_roundw
                case rel => exact ⟨k + 1, by go_num, hk', H.out.1.trans' HJ.out.1, HA.out⟩
                case measure => simp [intOf]; omega
              | true =>
                obtain ⟨r, hre⟩ : ∃ r, r = l[j] := ⟨_, rfl⟩
                have HR : Hid (l[j]? = some r ∧ CdP r) := ⟨by rw [hre]; exact List.getElem?_eq_getElem hj', by rw [hre]; exact HP.out.2.2 _ (List.getElem_mem hj')⟩
                clear hre
                have d0 : (0 : Int) ≤ (j : Int) := by omega
                have hw2 : IntKind.i64.wrap ((j : Int) + 1) = (j : Int) + 1 := by rw [IntKind.wrap_i64]; omega
                have HT : Hid ((l.take (j + 1)).all (okJ q p) = okJ q p r) := by rw [Hid, all_take HR.out.1, ← HJ.out.2]; rfl
                have HX : Hid (∀ V, New wr V → C3 V g off i k j q p r) := fun V hV => HC.out V (HJ.out.1.trans' hV) j r HR.out.1
                have HY : Hid (New wr wr.drew) := (New.refl _).dr
                have HCd : Hid (CdP q ∧ CdP p ∧ CdP r) := ⟨HI.out.2.1, HK.out.2, HR.out.2⟩
                go_wp2_with fail
                go_region_held3 (fun V => V.cell? ⟨g, off + i * 2, none⟩ = some (.int .i64 q.1) ∧ V.cell? ⟨g, off + i * 2 + 1, none⟩ = some (.int .i64 q.2) ∧ V.cell? ⟨g, off + k * 2, none⟩ = some (.int .i64 p.1) ∧ V.cell? ⟨g, off + k * 2 + 1, none⟩ = some (.int .i64 p.2) ∧ V.cell? ⟨g, off + j * 2, none⟩ = some (.int .i64 r.1) ∧ V.cell? ⟨g, off + j * 2 + 1, none⟩ = some (.int .i64 r.2))
                  (first | (have t := HX.out _ HY.out; exact ⟨t.q0, t.q1, t.p0, t.p1, t.r0, t.r1⟩))
                  (first | (go_at_call 13; refine (refSide_any q.1 q.2 p.1 p.2 r.1 r.2 _ HCd.out.1.1 HCd.out.1.2 HCd.out.2.1.1 HCd.out.2.1.2 HCd.out.2.2.1 HCd.out.2.2.2).mono ?_; rintro e w5 ⟨rfl, H5⟩; replace HY : Hid (New wr w5) := HY.out.trans' H5.out; clear H5))
                obtain ⟨sg, hsg⟩ : ∃ sg, sg = sgn (det q.1 q.2 p.1 p.2 r.1 r.2) := ⟨_, rfl⟩
                have HG : Hid (sg = sgn (D q p r)) := hsg
                rw [← hsg]
                clear hsg
                by_cases h0 : sg = 0
                · subst h0
                  have HD : Hid (D q p r = 0) := sgn_zero.1 HG.out.symm
                  have HY2 : Hid (New wr w5.drew) := HY.out.dr
                  clear HY
                  have HY := HY2
                  clear HY2
                  go_wp2_with fail
                  go_region_held3 (fun V => V.cell? ⟨g, off + i * 2, none⟩ = some (.int .i64 q.1) ∧ V.cell? ⟨g, off + i * 2 + 1, none⟩ = some (.int .i64 q.2) ∧ V.cell? ⟨g, off + k * 2, none⟩ = some (.int .i64 p.1) ∧ V.cell? ⟨g, off + k * 2 + 1, none⟩ = some (.int .i64 p.2) ∧ V.cell? ⟨g, off + j * 2, none⟩ = some (.int .i64 r.1) ∧ V.cell? ⟨g, off + j * 2 + 1, none⟩ = some (.int .i64 r.2))
                    (first | (have t := HX.out _ HY.out; exact ⟨t.q0, t.q1, t.p0, t.p1, t.r0, t.r1⟩))
                    (first | (go_at_call 48; refine (on_any p.1 p.2 r.1 r.2 q.1 q.2 _ HCd.out.2.1.1 HCd.out.2.1.2 HCd.out.2.2.1 HCd.out.2.2.2 HCd.out.1.1 HCd.out.1.2).mono ?_; rintro e w6 ⟨rfl, H5⟩; replace HY : Hid (New wr w6) := HY.out.trans' H5.out; clear H5))
                  have HY2 : Hid (New wr w6.drew) := HY.out.dr
                  clear HY
                  have HY := HY2
                  clear HY2
                  go_wp2_with fail
                  go_region_held3 (fun V => V.cell? ⟨g, off + i * 2, none⟩ = some (.int .i64 q.1) ∧ V.cell? ⟨g, off + i * 2 + 1, none⟩ = some (.int .i64 q.2) ∧ V.cell? ⟨g, off + j * 2, none⟩ = some (.int .i64 r.1) ∧ V.cell? ⟨g, off + j * 2 + 1, none⟩ = some (.int .i64 r.2))
                    (first | (have t := HX.out _ HY.out; exact ⟨t.q0, t.q1, t.r0, t.r1⟩))
                    (first | (go_at_call 49; refine (same_any r.1 r.2 q.1 q.2 _).mono ?_; rintro e w7 ⟨rfl, H5⟩; replace HY : Hid (New wr w7) := HY.out.trans' H5.out; clear H5))
                  cases ho : onB (p.1, p.2) (r.1, r.2) (q.1, q.2) with
                  | false =>
                    have HO : Hid (okJ q p r = true) := by rw [Hid, okJ, HD.out, show onB p r q = false from ho]; rfl
                    go_wp2_with fail
                    go_roundw
                    case rel => exact ⟨okJ q p r, j + 1, by rw [HO.out], by go_num, hj', HJ.out.1.trans' HY.out, HT.out.symm⟩
                    case measure => simp [intOf]; omega
                  | true =>
                    cases hs2 : sameB (r.1, r.2) (q.1, q.2) with
                    | false =>
                      have HO : Hid (okJ q p r = false) := by rw [Hid, okJ, HD.out, show onB p r q = true from ho, show sameB r q = false from hs2]; rfl
                      go_wp2_with fail
                      go_roundw
                      case rel => exact ⟨okJ q p r, j + 1, by rw [HO.out], by go_num, hj', HJ.out.1.trans' HY.out, HT.out.symm⟩
                      case measure => simp [intOf]; omega
                    | true =>
                      have HO : Hid (okJ q p r = true) := by rw [Hid, okJ, HD.out, show onB p r q = true from ho, show sameB r q = true from hs2]; rfl
                      go_wp2_with fail
                      go_roundw
                      case rel => exact ⟨okJ q p r, j + 1, by rw [HO.out], by go_num, hj', HJ.out.1.trans' HY.out, HT.out.symm⟩
                      case measure => simp [intOf]; omega
                · have g1 : decide (sg = 0) = false := by simpa using h0
                  have g2 : (sg == 0) = false := by simpa using h0
                  go_wp2_with fail
                  go_quiet (fail)
                  have HY2 : Hid (New wr (w5.drewN nq).drew) := (HY.out.drewN nq).dr
                  clear HY
                  have HY := HY2
                  clear HY2
                  have HD : Hid (¬D q p r = 0) := fun h => h0 (by rw [HG.out, sgn_zero.2 h])
                  generalize w5.drewN nq = W at *
                  go_wp2_with fail
                  go_region_held3 (fun V => V.cell? ⟨g, off + i * 2, none⟩ = some (.int .i64 q.1) ∧ V.cell? ⟨g, off + i * 2 + 1, none⟩ = some (.int .i64 q.2) ∧ V.cell? ⟨g, off + j * 2, none⟩ = some (.int .i64 r.1) ∧ V.cell? ⟨g, off + j * 2 + 1, none⟩ = some (.int .i64 r.2))
                    (first | (have t := HX.out _ HY.out; exact ⟨t.q0, t.q1, t.r0, t.r1⟩))
                    (first | (go_at_call 49; refine (same_any r.1 r.2 q.1 q.2 _).mono ?_; rintro e w7 ⟨rfl, H5⟩; replace HY : Hid (New wr w7) := HY.out.trans' H5.out; clear H5))
                  by_cases h1 : 0 ≤ sg
                  · have HO : Hid (okJ q p r = true) := by
                      have : 0 ≤ D q p r := by have h2 := HG.out; rcases sgn_cases (D q p r) with h | h | h <;> omega
                      rw [Hid, okJ, decide_eq_true this, decide_eq_false HD.out]
                      rfl
                    have g4 : decide (0 ≤ sg) = true := decide_eq_true h1
                    go_wp2_with fail
                    go_roundw
                    case rel => exact ⟨okJ q p r, j + 1, by rw [HO.out], by go_num, hj', HJ.out.1.trans' HY.out, HT.out.symm⟩
                    case measure => simp [intOf]; omega
                  · have HO : Hid (okJ q p r = false) := by
                      have : ¬0 ≤ D q p r := by have h2 := HG.out; rcases sgn_cases (D q p r) with h | h | h <;> omega
                      rw [Hid, okJ, decide_eq_false this]
                      rfl
                    have g4 : decide (0 ≤ sg) = false := decide_eq_false h1
                    go_wp2_with fail
                    go_roundw
                    case rel => exact ⟨okJ q p r, j + 1, by rw [HO.out], by go_num, hj', HJ.out.1.trans' HY.out, HT.out.symm⟩
                    case measure => simp [intOf]; omega
            · have hje : j = l.length := by omega
              subst hje
              cases b with
              | false =>
                have HA : Hid ((l.take (k + 1)).any (goodK l q) = false) := by
                  rw [Hid, any_take HK.out.1, H.out.2]
                  unfold goodK
                  rw [all_short HJ.out.2.symm]
                  simp
                go_wp2_with fail
                go_roundw
                case rel => exact ⟨k + 1, by go_num, hk', H.out.1.trans' HJ.out.1, HA.out⟩
                case measure => simp [intOf]; omega
              | true =>
                have HA : Hid (cornerB l i = true) := by
                  rw [Hid, HF.out, List.any_eq_true]
                  refine ⟨p, List.mem_of_getElem? HK.out.1, ?_⟩
                  unfold goodK
                  have := HJ.out.2
                  rw [List.take_length] at this
                  rw [HS.out, ← this]
                  rfl
                go_wp2_with fail
                go_ret
                exact ⟨by rw [HA.out]; rfl, H.out.1.trans' HJ.out.1⟩
      · have e : k = l.length := by omega
        subst e
        have HE : Hid (cornerB l i = false) := by rw [Hid, HF.out, ← H.out.2, List.take_length]
        go_wp2_with fail
        go_ret
        exact ⟨by rw [HE.out]; rfl, H.out.1⟩
end Go.Proofs.Ytgeoffpcmkofkaa
/- plumbref's 'next'. -/
namespace Go.Proofs.Ytgeoffpcmkofkaa
open Go.RowKit Fl
set_option maxRecDepth 100000
attribute [local go_sem ↓] Go.wp_at_zero Go.wp_at_succ

/-- The point with a number. -/
def pN (l : Pts) (i : Nat) : Pt := (l[i]?).getD (0, 0)
def leftJ (l : Pts) (a k j : Nat) : Bool := decide (0 ≤ D (pN l a) (pN l k) (pN l j))
def nextB (l : Pts) (cs : List Nat) (a k : Nat) : Bool := decide (k ≠ a) && cs.all (leftJ l a k)
def nextN (l : Pts) (cs : List Nat) (a : Nat) : Nat := (cs.find? (nextB l cs a)).getD a
/-- Numbers in a row. -/
def NumsAt (w : World) (g : Nat) (cs : List Nat) : Prop := ∀ (i n : Nat), cs[i]? = some n → w.cell? ⟨g, i, none⟩ = some (.int .i64 (n : Int))
theorem allN_take {cs : List Nat} {f : Nat → Bool} {j r : Nat} (h : cs[j]? = some r) : (cs.take (j + 1)).all f = ((cs.take j).all f && f r) := by
  rw [List.take_add_one, h]
  simp
theorem allN_short {cs : List Nat} {f : Nat → Bool} {j : Nat} (h : (cs.take j).all f = false) : cs.all f = false := by
  rw [Bool.eq_false_iff] at h ⊢
  intro h2
  apply h
  rw [List.all_eq_true] at h2 ⊢
  exact fun x hx => h2 x (List.mem_of_mem_take hx)
theorem find_take {cs : List Nat} {f : Nat → Bool} {j r : Nat} (h : cs[j]? = some r) (h1 : (cs.take j).find? f = none) (h2 : f r = false) : (cs.take (j + 1)).find? f = none := by
  rw [List.take_add_one, h, List.find?_append, h1]
  simp [h2]
theorem find_here {cs : List Nat} {f : Nat → Bool} {j r : Nat} (h : cs[j]? = some r) (h1 : (cs.take j).find? f = none) (h2 : f r = true) : cs.find? f = some r := by
  have e : cs = cs.take j ++ cs.drop j := (List.take_append_drop j cs).symm
  rw [e, List.find?_append, h1]
  have hj := (List.getElem?_eq_some_iff.1 h).1
  have : cs.drop j = r :: cs.drop (j + 1) := by
    rw [List.drop_eq_getElem_cons hj]
    congr 1
    rw [List.getElem?_eq_getElem hj] at h
    injection h
  rw [this]
  simp [h2]

set_option maxHeartbeats 3200000 in
theorem next_any (g off cap gc cc : Nat) (l : Pts) (cs : List Nat) (a : Nat) (w : World) (hp : PtsAt w g off l) (hg : g < w.heap.size) (hc : ∀ x ∈ l, CdP x) (ha : a < l.length) (hn : NumsAt w gc cs) (hcs : ∀ n ∈ cs, n < l.length) (hcl : cs.length ≤ 1000000) :
    Calls Try.prog 53 #[.slice (some ⟨g, off, none⟩) l.length cap, .slice (some ⟨gc, 0, none⟩) cs.length cc, .int .i64 (a : Int)] w fun e w' => e = .returned (.int .i64 (nextN l cs a : Int)) ∧ Hid (New w w') := by
  have HP : Hid (PtsAt w g off l ∧ g < w.heap.size ∧ (∀ x ∈ l, CdP x) ∧ NumsAt w gc cs ∧ ∀ n ∈ cs, n < l.length) := ⟨hp, hg, hc, hn, hcs⟩
  clear hp hg hc hn hcs
  have HF : Hid (∀ V, New w V → ∀ n, n < l.length → V.cell? ⟨g, off + n * 2, none⟩ = some (.int .i64 (pN l n).1) ∧ V.cell? ⟨g, off + n * 2 + 1, none⟩ = some (.int .i64 (pN l n).2)) := fun V hV n hn => by
    have := HP.out.1.kept HP.out.2.1 hV n hn
    rw [show pN l n = l[n] by simp [pN, hn]]
    exact this
  have HD : Hid (∀ n, n < l.length → CdP (pN l n)) := fun n hn => by rw [show pN l n = l[n] by simp [pN, hn]]; exact HP.out.2.2.1 _ (List.getElem_mem hn)
  have b0 : (0 : Int) ≤ (a : Int) := by omega
  have b1 : (a : Int) < (l.length : Int) := by omega
  go_enter Try.func53, Try.ntmps53
  go_wp2_with fail
  go_loopw [7] (fun v wr => ∃ k : Nat, v = .int .i64 (k : Int) ∧ k ≤ cs.length ∧ Hid (New w wr ∧ (cs.take k).find? (nextB l cs a) = none)) (fun v _ => cs.length - (intOf v).toNat)
  case atStart => exact ⟨0, rfl, Nat.zero_le _, New.refl _, rfl⟩
  case round =>
    obtain ⟨k, rfl, hk, H⟩ := hrel
    rcases Nat.lt_or_ge k cs.length with hk' | hk'
    · obtain ⟨n, hne⟩ : ∃ n, cs[k]? = some n := ⟨_, List.getElem?_eq_getElem hk'⟩
      have HK : Hid (cs[k]? = some n) := hne
      have hnl : n < l.length := HP.out.2.2.2.2 n (List.mem_of_getElem? hne)
      have x0 := H.out.1.kept' (HP.out.2.2.2.1 k n hne)
      clear hne
      have c0 : (0 : Int) ≤ (k : Int) := by omega
      have c1 : (k : Int) < (cs.length : Int) := by omega
      have hw1 : IntKind.i64.wrap ((k : Int) + 1) = (k : Int) + 1 := by rw [IntKind.wrap_i64]; omega
      obtain ⟨b, hb⟩ : ∃ b, b = decide (n ≠ a) := ⟨_, rfl⟩
      have hb' : ((n : Int) != (a : Int)) = b := by
        rw [hb]
        by_cases h : n = a
        · simp [h]
        · have h2 : (n : Int) ≠ (a : Int) := by omega
          rw [decide_eq_true h]
          exact bne_iff_ne.2 h2
      have HB : Hid (b = decide (n ≠ a)) := hb
      clear hb
      go_wp2_with fail
      have HW : Hid (New wr wr) := New.refl _
      clear x0
      go_loopw [9, 10] (fun u v w4 => ∃ (b' : Bool) (j : Nat), u = .bool b' ∧ v = .int .i64 (j : Int) ∧ j ≤ cs.length ∧ Hid (New wr w4 ∧ b' = (b && (cs.take j).all (leftJ l a n)))) (fun _ v _ => cs.length - (intOf v).toNat)
      case atStart => exact ⟨b, 0, rfl, rfl, Nat.zero_le _, HW.out, by simp⟩
      case round =>
        obtain ⟨b', j, rfl, rfl, hj, HJ⟩ := hrel
        rcases Nat.lt_or_ge j cs.length with hj' | hj'
        · have d1 : (j : Int) < (cs.length : Int) := by omega
          cases b' with
          | false =>
            have HA : Hid ((cs.take (k + 1)).find? (nextB l cs a) = none) := find_take HK.out H.out.2 (by
              unfold nextB
              rcases Bool.eq_false_or_eq_true (decide (n ≠ a)) with h | h
              · rw [h] at HB
                have h2 := HJ.out.2
                rw [HB.out, Bool.true_and] at h2
                rw [h, allN_short h2.symm]
                rfl
              · rw [h]
                rfl)
            go_wp2_with fail
            go_roundw
            case rel => exact ⟨k + 1, by go_num, hk', H.out.1.trans' HJ.out.1, HA.out⟩
            case measure => simp [intOf]; omega
          | true =>
            obtain ⟨m, hme⟩ : ∃ m, cs[j]? = some m := ⟨_, List.getElem?_eq_getElem hj'⟩
            have HM : Hid (cs[j]? = some m) := hme
            have hml : m < l.length := HP.out.2.2.2.2 m (List.mem_of_getElem? hme)
            clear hme
            have d0 : (0 : Int) ≤ (j : Int) := by omega
            have m0 : (0 : Int) ≤ (m : Int) := by omega
            have m1 : (m : Int) < (l.length : Int) := by omega
            have n0 : (0 : Int) ≤ (n : Int) := by omega
            have n1 : (n : Int) < (l.length : Int) := by omega
            have hw2 : IntKind.i64.wrap ((j : Int) + 1) = (j : Int) + 1 := by rw [IntKind.wrap_i64]; omega
            have HT : Hid ((b && (cs.take (j + 1)).all (leftJ l a n)) = leftJ l a n m) := by
              have h2 := HJ.out.2
              rw [Hid, allN_take HM.out, ← Bool.and_assoc, ← h2]
              rfl
            have HX : Hid (∀ V, New wr V → V.cell? ⟨g, off + a * 2, none⟩ = some (.int .i64 (pN l a).1) ∧ V.cell? ⟨g, off + a * 2 + 1, none⟩ = some (.int .i64 (pN l a).2) ∧ V.cell? ⟨g, off + n * 2, none⟩ = some (.int .i64 (pN l n).1) ∧ V.cell? ⟨g, off + n * 2 + 1, none⟩ = some (.int .i64 (pN l n).2) ∧ V.cell? ⟨g, off + m * 2, none⟩ = some (.int .i64 (pN l m).1) ∧ V.cell? ⟨g, off + m * 2 + 1, none⟩ = some (.int .i64 (pN l m).2) ∧ V.cell? ⟨gc, j, none⟩ = some (.int .i64 (m : Int))) := fun V hV => by
              have hN := (H.out.1.trans' HJ.out.1).trans' hV
              have f1 := HF.out V hN a ha
              have f2 := HF.out V hN n hnl
              have f3 := HF.out V hN m hml
              exact ⟨f1.1, f1.2, f2.1, f2.2, f3.1, f3.2, hN.kept' (HP.out.2.2.2.1 j m HM.out)⟩
            have HY : Hid (New wr wr.drew) := (New.refl _).dr
            have HCd : Hid (CdP (pN l a) ∧ CdP (pN l n) ∧ CdP (pN l m)) := ⟨HD.out a ha, HD.out n hnl, HD.out m hml⟩
            go_wp2_with fail
            go_region_held3 (fun V => V.cell? ⟨g, off + a * 2, none⟩ = some (.int .i64 (pN l a).1) ∧ V.cell? ⟨g, off + a * 2 + 1, none⟩ = some (.int .i64 (pN l a).2) ∧ V.cell? ⟨g, off + n * 2, none⟩ = some (.int .i64 (pN l n).1) ∧ V.cell? ⟨g, off + n * 2 + 1, none⟩ = some (.int .i64 (pN l n).2) ∧ V.cell? ⟨g, off + m * 2, none⟩ = some (.int .i64 (pN l m).1) ∧ V.cell? ⟨g, off + m * 2 + 1, none⟩ = some (.int .i64 (pN l m).2) ∧ V.cell? ⟨gc, j, none⟩ = some (.int .i64 (m : Int)))
              (first | exact HX.out _ HY.out)
              (first | (go_at_call 13; refine (refSide_any (pN l a).1 (pN l a).2 (pN l n).1 (pN l n).2 (pN l m).1 (pN l m).2 _ HCd.out.1.1 HCd.out.1.2 HCd.out.2.1.1 HCd.out.2.1.2 HCd.out.2.2.1 HCd.out.2.2.2).mono ?_; rintro e w5 ⟨rfl, H5⟩; replace HY : Hid (New wr w5) := HY.out.trans' H5.out; clear H5))
            have HO : Hid (decide (0 ≤ sgn (det (pN l a).1 (pN l a).2 (pN l n).1 (pN l n).2 (pN l m).1 (pN l m).2)) = leftJ l a n m) := by
              rw [Hid, leftJ]
              have : (0 ≤ sgn (det (pN l a).1 (pN l a).2 (pN l n).1 (pN l n).2 (pN l m).1 (pN l m).2)) ↔ 0 ≤ D (pN l a) (pN l n) (pN l m) := by
                unfold D
                rcases sgn_cases (det (pN l a).1 (pN l a).2 (pN l n).1 (pN l n).2 (pN l m).1 (pN l m).2) with h | h | h <;> omega
              exact decide_eq_decide.2 this
            go_wp2_with fail
            go_roundw
            case rel => exact ⟨leftJ l a n m, j + 1, by rw [← HO.out], by go_num, hj', HJ.out.1.trans' HY.out, HT.out.symm⟩
            case measure => simp [intOf]; omega
        · have hje : j = cs.length := by omega
          subst hje
          cases b' with
          | false =>
            have HA : Hid ((cs.take (k + 1)).find? (nextB l cs a) = none) := find_take HK.out H.out.2 (by
              unfold nextB
              rcases Bool.eq_false_or_eq_true (decide (n ≠ a)) with h | h
              · rw [h] at HB
                have h2 := HJ.out.2
                rw [HB.out, Bool.true_and] at h2
                rw [h, allN_short h2.symm]
                rfl
              · rw [h]
                rfl)
            go_wp2_with fail
            go_roundw
            case rel => exact ⟨k + 1, by go_num, hk', H.out.1.trans' HJ.out.1, HA.out⟩
            case measure => simp [intOf]; omega
          | true =>
            have HA : Hid (nextN l cs a = n) := by
              have h2 := HJ.out.2
              rw [List.take_length] at h2
              have h3 := h2.symm
              rw [Bool.and_eq_true] at h3
              rw [Hid, nextN, find_here HK.out H.out.2 (by unfold nextB; rw [← HB.out, h3.1, h3.2]; rfl)]
              rfl
            go_wp2_with fail
            go_ret
            exact ⟨by rw [HA.out]; rfl, H.out.1.trans' HJ.out.1⟩
    · have e : k = cs.length := by omega
      subst e
      have HE : Hid (nextN l cs a = a) := by
        have := H.out.2
        rw [List.take_length] at this
        rw [Hid, nextN, this]
        rfl
      go_wp2_with fail
      go_ret
      exact ⟨by rw [HE.out]; rfl, H.out.1⟩
end Go.Proofs.Ytgeoffpcmkofkaa
/- plumblaw's 'sameInts', of two rows that hold the same. -/
namespace Go.Proofs.Ytgeoffpcmkofkaa
open Go.RowKit Fl
set_option maxRecDepth 100000
attribute [local go_sem ↓] Go.wp_at_zero Go.wp_at_succ

/-- Numbers in a row that may be nil. -/
def IntsAt (w : World) (ao : Option Addr) (xs : List Int) : Prop := 0 < xs.length → ∃ g, ao = some ⟨g, 0, none⟩ ∧ ∀ (i : Nat) (x : Int), xs[i]? = some x → w.cell? ⟨g, i, none⟩ = some (.int .i64 x)
set_option maxHeartbeats 1600000 in
theorem sameInts_eq (a1 a2 : Option Addr) (c1 c2 : Nat) (xs : List Int) (w : World) (h1 : IntsAt w a1 xs) (h2 : IntsAt w a2 xs) (hl : xs.length ≤ 1000000) :
    Calls Try.prog 33 #[.slice a1 xs.length c1, .slice a2 xs.length c2] w fun e w' => e = .returned (.bool true) ∧ Hid (New w w') := by
  have HP : Hid (IntsAt w a1 xs ∧ IntsAt w a2 xs) := ⟨h1, h2⟩
  clear h1 h2
  have hne : ((xs.length : Int) != (xs.length : Int)) = false := by simp
  go_enter Try.func33, Try.ntmps33
  go_wp2_with fail
  go_loopw [5] (fun v wr => ∃ k : Nat, v = .int .i64 (k : Int) ∧ k ≤ xs.length ∧ Hid (New w wr)) (fun v _ => xs.length - (intOf v).toNat)
  case atStart => exact ⟨0, rfl, Nat.zero_le _, New.refl _⟩
  case round =>
    obtain ⟨k, rfl, hk, H⟩ := hrel
    rcases Nat.lt_or_ge k xs.length with hk' | hk'
    · obtain ⟨g1, e1, f1⟩ := HP.out.1 (by omega)
      obtain ⟨g2, e2, f2⟩ := HP.out.2 (by omega)
      subst e1 e2
      obtain ⟨x, hx⟩ : ∃ x, xs[k]? = some x := ⟨_, List.getElem?_eq_getElem hk'⟩
      have y1 := H.out.kept' (f1 k x hx)
      have y2 := H.out.kept' (f2 k x hx)
      clear f1 f2 hx
      have c0 : (0 : Int) ≤ (k : Int) := by omega
      have c1' : (k : Int) < (xs.length : Int) := by omega
      have hw1 : IntKind.i64.wrap ((k : Int) + 1) = (k : Int) + 1 := by rw [IntKind.wrap_i64]; omega
      have hx2 : (x != x) = false := by simp
      go_wp2_with fail
      go_quiet (fail)
      go_wp2_with fail
      go_roundw
      case rel => exact ⟨k + 1, by go_num, hk', H.out.drewN _⟩
      case measure => simp [intOf]; omega
    · go_wp2_with fail
      go_ret
      exact ⟨rfl, H.out⟩
end Go.Proofs.Ytgeoffpcmkofkaa
