/- Na; Nb; Nc; Nd; Ws; Yp; Ne; Nf: texts laid into one. -/
import Derived.Test.YtgeoffpcmkofkaaQah
import Derived.Test.YtgeoffpcmkofkaaQav
import Derived.Test.YtgeoffpcmkofkaaQag
import Derived.Deep.AppendLies
import Derived.Test.YtgeoffpcmkofkaaQae
/- plumbref's 'First'. -/
namespace Go.Proofs.Ytgeoffpcmkofkaa
open Go.RowKit Fl
set_option maxRecDepth 100000
attribute [local go_sem ↓] Go.wp_at_zero Go.wp_at_succ

/-- None ahead of it is the same. -/
def firstB (l : Pts) (i : Nat) : Bool := decide (∀ k, k < i → l[k]? ≠ l[i]?)
set_option maxHeartbeats 1600000 in
theorem refFirst_any (g off cap : Nat) (l : Pts) (i : Nat) (w : World) (hp : PtsAt w g off l) (hg : g < w.heap.size) (hl : l.length ≤ 1000000) (hi : i < l.length) :
    Calls Try.prog 68 #[.slice (some ⟨g, off, none⟩) l.length cap, .int .i64 (i : Int)] w fun e w' => e = .returned (.bool (firstB l i)) ∧ Hid (New w w') := by
  have HP : Hid (PtsAt w g off l ∧ g < w.heap.size) := ⟨hp, hg⟩
  clear hp hg
  obtain ⟨q, hq⟩ : ∃ q, q = l[i] := ⟨_, rfl⟩
  have HI : Hid (l[i]? = some q) := by rw [Hid, hq]; exact List.getElem?_eq_getElem hi
  have HQ : Hid (∀ V, New w V → V.cell? ⟨g, off + i * 2, none⟩ = some (.int .i64 q.1) ∧ V.cell? ⟨g, off + i * 2 + 1, none⟩ = some (.int .i64 q.2)) := fun V hV => by
    have := HP.out.1.kept HP.out.2 hV i hi
    rw [← hq] at this
    exact this
  have b0 : (0 : Int) ≤ (i : Int) := by omega
  have b1 : (i : Int) < (l.length : Int) := by omega
  clear hq
  go_enter Try.func68, Try.ntmps68
  go_wp2_with fail
  go_loopw [5] (fun v wr => ∃ k : Nat, v = .int .i64 (k : Int) ∧ k ≤ i ∧ Hid (New w wr ∧ ∀ k', k' < k → l[k']? ≠ l[i]?)) (fun v _ => i - (intOf v).toNat)
  case atStart => exact ⟨0, rfl, Nat.zero_le _, New.refl _, fun k' h => by omega⟩
  case round =>
    obtain ⟨k, rfl, hk, H⟩ := hrel
    rcases Nat.lt_or_ge k i with hk' | hk'
    · obtain ⟨p, hpe⟩ : ∃ p, p = l[k] := ⟨_, rfl⟩
      have HK : Hid (l[k]? = some p) := by rw [Hid, hpe]; exact List.getElem?_eq_getElem (by omega)
      have HQ' : Hid (∀ V, New wr V → V.cell? ⟨g, off + k * 2, none⟩ = some (.int .i64 p.1) ∧ V.cell? ⟨g, off + k * 2 + 1, none⟩ = some (.int .i64 p.2) ∧ V.cell? ⟨g, off + i * 2, none⟩ = some (.int .i64 q.1) ∧ V.cell? ⟨g, off + i * 2 + 1, none⟩ = some (.int .i64 q.2)) := fun V hV => by
        have h1 := HP.out.1.kept HP.out.2 (H.out.1.trans' hV) k (by omega)
        rw [← hpe] at h1
        exact ⟨h1.1, h1.2, HQ.out V (H.out.1.trans' hV)⟩
      clear hpe
      have c0 : (0 : Int) ≤ (k : Int) := by omega
      have c1 : (k : Int) < (l.length : Int) := by omega
      have c2 : (k : Int) < (i : Int) := by omega
      have hw1 : IntKind.i64.wrap ((k : Int) + 1) = (k : Int) + 1 := by rw [IntKind.wrap_i64]; omega
      have HW : Hid (New wr wr.drew) := (New.refl _).dr
      go_wp2_with fail
      go_region_held3 (fun V => V.cell? ⟨g, off + k * 2, none⟩ = some (.int .i64 p.1) ∧ V.cell? ⟨g, off + k * 2 + 1, none⟩ = some (.int .i64 p.2) ∧ V.cell? ⟨g, off + i * 2, none⟩ = some (.int .i64 q.1) ∧ V.cell? ⟨g, off + i * 2 + 1, none⟩ = some (.int .i64 q.2))
        (first | exact HQ'.out _ HW.out)
        (first | (go_at_call 49; refine (same_any p.1 p.2 q.1 q.2 _).mono ?_; rintro e w3 ⟨rfl, H3⟩; replace HW : Hid (New wr w3) := HW.out.trans' H3.out; clear H3))
      cases hs : sameB (p.1, p.2) (q.1, q.2) with
      | true =>
        have HF : Hid (firstB l i = false) := decide_eq_false fun h => h k hk' (by rw [HK.out, HI.out]; congr 1; exact of_decide_eq_true hs)
        go_wp2_with fail
        go_ret
        exact ⟨by rw [HF.out]; rfl, H.out.1.trans' HW.out⟩
      | false =>
        have HS : Hid (p ≠ q) := of_decide_eq_false hs
        go_wp2_with fail
        go_roundw
        case rel =>
          refine ⟨k + 1, by go_num, hk', H.out.1.trans' HW.out, fun k' hlt => ?_⟩
          rcases Nat.lt_or_ge k' k with h | h
          · exact H.out.2 k' h
          · have : k' = k := by omega
            subst this
            rw [HK.out, HI.out]
            intro e
            injection e with e
            exact HS.out e
        case measure => simp [intOf]; omega
    · have e : k = i := by omega
      subst e
      have HF : Hid (firstB l k = true) := decide_eq_true H.out.2
      go_wp2_with fail
      go_ret
      exact ⟨by rw [HF.out]; rfl, H.out.1⟩
end Go.Proofs.Ytgeoffpcmkofkaa
/- plumbref's 'corner'. -/
namespace Go.Proofs.Ytgeoffpcmkofkaa
open Go.RowKit Fl
set_option maxRecDepth 100000
attribute [local go_sem ↓] Go.wp_at_zero Go.wp_at_succ

/-- From q towards p, r lies to the left or the same way. -/
def okJ (q p r : Pt) : Bool := decide (0 ≤ D q p r) && (!(decide (D q p r = 0) && onB p r q) || sameB r q)
def goodK (l : Pts) (q p : Pt) : Bool := !sameB p q && l.all (okJ q p)
def cornerB (l : Pts) (i : Nat) : Bool := match l[i]? with
  | some q => firstB l i && l.any (goodK l q)
  | none => false
/-- The cells of three points. -/
structure C3 (V : World) (g off i k j : Nat) (q p r : Pt) : Prop where
  q0 : V.cell? ⟨g, off + i * 2, none⟩ = some (.int .i64 q.1)
  q1 : V.cell? ⟨g, off + i * 2 + 1, none⟩ = some (.int .i64 q.2)
  p0 : V.cell? ⟨g, off + k * 2, none⟩ = some (.int .i64 p.1)
  p1 : V.cell? ⟨g, off + k * 2 + 1, none⟩ = some (.int .i64 p.2)
  r0 : V.cell? ⟨g, off + j * 2, none⟩ = some (.int .i64 r.1)
  r1 : V.cell? ⟨g, off + j * 2 + 1, none⟩ = some (.int .i64 r.2)
theorem all_take {l : Pts} {f : Pt → Bool} {j : Nat} {r : Pt} (h : l[j]? = some r) : (l.take (j + 1)).all f = ((l.take j).all f && f r) := by
  rw [List.take_add_one, h]
  simp
theorem any_take {l : Pts} {f : Pt → Bool} {j : Nat} {r : Pt} (h : l[j]? = some r) : (l.take (j + 1)).any f = ((l.take j).any f || f r) := by
  rw [List.take_add_one, h]
  simp
theorem all_short {l : Pts} {f : Pt → Bool} {j : Nat} (h : (l.take j).all f = false) : l.all f = false := by
  rw [Bool.eq_false_iff] at h ⊢
  intro h2
  apply h
  rw [List.all_eq_true] at h2 ⊢
  exact fun x hx => h2 x (List.mem_of_mem_take hx)

set_option maxHeartbeats 3200000 in
theorem corner_any (g off cap : Nat) (l : Pts) (i : Nat) (w : World) (hp : PtsAt w g off l) (hg : g < w.heap.size) (hl : l.length ≤ 1000000) (hi : i < l.length) (hc : ∀ x ∈ l, CdP x) :
    Calls Try.prog 52 #[.slice (some ⟨g, off, none⟩) l.length cap, .int .i64 (i : Int)] w fun e w' => e = .returned (.bool (cornerB l i)) ∧ Hid (New w w') := by
  have HP : Hid (PtsAt w g off l ∧ g < w.heap.size ∧ ∀ x ∈ l, CdP x) := ⟨hp, hg, hc⟩
  clear hp hg hc
  obtain ⟨q, hq⟩ : ∃ q, q = l[i] := ⟨_, rfl⟩
  have HI : Hid (l[i]? = some q ∧ CdP q ∧ cornerB l i = (firstB l i && l.any (goodK l q))) := by
    have h1 : l[i]? = some q := by rw [hq]; exact List.getElem?_eq_getElem hi
    exact ⟨h1, by rw [hq]; exact HP.out.2.2 _ (List.getElem_mem hi), by unfold cornerB; rw [h1]⟩
  have b0 : (0 : Int) ≤ (i : Int) := by omega
  have b1 : (i : Int) < (l.length : Int) := by omega
  clear hq
  go_enter Try.func52, Try.ntmps52
  go_wp2_with fail
  refine (refFirst_any g off cap l i w HP.out.1 HP.out.2.1 hl hi).mono ?_
  rintro e w1 ⟨rfl, H1⟩
  cases hf : firstB l i with
  | false =>
    have HF : Hid (cornerB l i = false) := by rw [Hid, HI.out.2.2, hf]; rfl
    go_wp2_with fail
    go_ret
    exact ⟨by rw [HF.out]; rfl, H1.out⟩
  | true =>
    have HF : Hid (cornerB l i = l.any (goodK l q)) := by rw [Hid, HI.out.2.2, hf]; rfl
    clear hf
    go_wp2_with fail
    go_loopw [6] (fun v wr => ∃ k : Nat, v = .int .i64 (k : Int) ∧ k ≤ l.length ∧ Hid (New w wr ∧ (l.take k).any (goodK l q) = false)) (fun v _ => l.length - (intOf v).toNat)
    case atStart => exact ⟨0, rfl, Nat.zero_le _, H1.out, rfl⟩
    case round =>
      obtain ⟨k, rfl, hk, H⟩ := hrel
      rcases Nat.lt_or_ge k l.length with hk' | hk'
      · obtain ⟨p, hpe⟩ : ∃ p, p = l[k] := ⟨_, rfl⟩
        have HK : Hid (l[k]? = some p ∧ CdP p) := ⟨by rw [hpe]; exact List.getElem?_eq_getElem hk', by rw [hpe]; exact HP.out.2.2 _ (List.getElem_mem hk')⟩
        have HC : Hid (∀ V, New wr V → ∀ j r, l[j]? = some r → C3 V g off i k j q p r) := fun V hV j r hr => by
          have hN := H.out.1.trans' hV
          have f : ∀ n x, l[n]? = some x → V.cell? ⟨g, off + n * 2, none⟩ = some (.int .i64 x.1) ∧ V.cell? ⟨g, off + n * 2 + 1, none⟩ = some (.int .i64 x.2) := fun n x hx => by
            obtain ⟨hn, rfl⟩ := List.getElem?_eq_some_iff.1 hx
            have := HP.out.1.kept HP.out.2.1 hN n hn
            exact this
          have f1 := f i q HI.out.1
          have f2 := f k p HK.out.1
          have f3 := f j r hr
          exact ⟨f1.1, f1.2, f2.1, f2.2, f3.1, f3.2⟩
        clear hpe
        have c0 : (0 : Int) ≤ (k : Int) := by omega
        have c1 : (k : Int) < (l.length : Int) := by omega
        have hw1 : IntKind.i64.wrap ((k : Int) + 1) = (k : Int) + 1 := by rw [IntKind.wrap_i64]; omega
        have HW : Hid (New wr wr.drew) := (New.refl _).dr
        go_wp2_with fail
        go_region_held3 (fun V => V.cell? ⟨g, off + k * 2, none⟩ = some (.int .i64 p.1) ∧ V.cell? ⟨g, off + k * 2 + 1, none⟩ = some (.int .i64 p.2) ∧ V.cell? ⟨g, off + i * 2, none⟩ = some (.int .i64 q.1) ∧ V.cell? ⟨g, off + i * 2 + 1, none⟩ = some (.int .i64 q.2))
          (first | (have t := HC.out _ HW.out i q HI.out.1; exact ⟨t.p0, t.p1, t.q0, t.q1⟩))
          (first | (go_at_call 49; refine (same_any p.1 p.2 q.1 q.2 _).mono ?_; rintro e w3 ⟨rfl, H3⟩; replace HW : Hid (New wr w3) := HW.out.trans' H3.out; clear H3))
        cases hs : sameB (p.1, p.2) (q.1, q.2) with
        | true =>
          have HS : Hid ((l.take (k + 1)).any (goodK l q) = false) := by
            rw [Hid, any_take HK.out.1, H.out.2]
            unfold goodK
            rw [show sameB p q = true from hs]
            rfl
          go_wp2_with fail
          go_roundw
          case rel => exact ⟨k + 1, by go_num, hk', H.out.1.trans' HW.out, HS.out⟩
          case measure => simp [intOf]; omega
        | false =>
          have HS : Hid (sameB p q = false) := hs
          clear hs
          go_wp2_with fail
          go_loopw [8, 9] (fun u v w4 => ∃ (b : Bool) (j : Nat), u = .bool b ∧ v = .int .i64 (j : Int) ∧ j ≤ l.length ∧ Hid (New wr w4 ∧ b = (l.take j).all (okJ q p))) (fun _ v _ => l.length - (intOf v).toNat)
          case atStart => exact ⟨true, 0, rfl, rfl, Nat.zero_le _, HW.out, rfl⟩
          case round =>
            obtain ⟨b, j, rfl, rfl, hj, HJ⟩ := hrel
            rcases Nat.lt_or_ge j l.length with hj' | hj'
            · have d1 : (j : Int) < (l.length : Int) := by omega
              cases b with
              | false =>
                have HA : Hid ((l.take (k + 1)).any (goodK l q) = false) := by
                  rw [Hid, any_take HK.out.1, H.out.2]
                  unfold goodK
                  rw [all_short HJ.out.2.symm]
                  simp
                go_wp2_with fail
                go_roundw
                case rel => exact ⟨k + 1, by go_num, hk', H.out.1.trans' HJ.out.1, HA.out⟩
                case measure => simp [intOf]; omega
              | true =>
                obtain ⟨r, hre⟩ : ∃ r, r = l[j] := ⟨_, rfl⟩
                have HR : Hid (l[j]? = some r ∧ CdP r) := ⟨by rw [hre]; exact List.getElem?_eq_getElem hj', by rw [hre]; exact HP.out.2.2 _ (List.getElem_mem hj')⟩
                clear hre
                have d0 : (0 : Int) ≤ (j : Int) := by omega
                have hw2 : IntKind.i64.wrap ((j : Int) + 1) = (j : Int) + 1 := by rw [IntKind.wrap_i64]; omega
                have HT : Hid ((l.take (j + 1)).all (okJ q p) = okJ q p r) := by rw [Hid, all_take HR.out.1, ← HJ.out.2]; rfl
                have HX : Hid (∀ V, New wr V → C3 V g off i k j q p r) := fun V hV => HC.out V (HJ.out.1.trans' hV) j r HR.out.1
                have HY : Hid (New wr wr.drew) := (New.refl _).dr
                have HCd : Hid (CdP q ∧ CdP p ∧ CdP r) := ⟨HI.out.2.1, HK.out.2, HR.out.2⟩
                go_wp2_with fail
                go_region_held3 (fun V => V.cell? ⟨g, off + i * 2, none⟩ = some (.int .i64 q.1) ∧ V.cell? ⟨g, off + i * 2 + 1, none⟩ = some (.int .i64 q.2) ∧ V.cell? ⟨g, off + k * 2, none⟩ = some (.int .i64 p.1) ∧ V.cell? ⟨g, off + k * 2 + 1, none⟩ = some (.int .i64 p.2) ∧ V.cell? ⟨g, off + j * 2, none⟩ = some (.int .i64 r.1) ∧ V.cell? ⟨g, off + j * 2 + 1, none⟩ = some (.int .i64 r.2))
                  (first | (have t := HX.out _ HY.out; exact ⟨t.q0, t.q1, t.p0, t.p1, t.r0, t.r1⟩))
                  (first | (go_at_call 13; refine (refSide_any q.1 q.2 p.1 p.2 r.1 r.2 _ HCd.out.1.1 HCd.out.1.2 HCd.out.2.1.1 HCd.out.2.1.2 HCd.out.2.2.1 HCd.out.2.2.2).mono ?_; rintro e w5 ⟨rfl, H5⟩; replace HY : Hid (New wr w5) := HY.out.trans' H5.out; clear H5))
                obtain ⟨sg, hsg⟩ : ∃ sg, sg = sgn (det q.1 q.2 p.1 p.2 r.1 r.2) := ⟨_, rfl⟩
                have HG : Hid (sg = sgn (D q p r)) := hsg
                rw [← hsg]
                clear hsg
                by_cases h0 : sg = 0
                · subst h0
                  have HD : Hid (D q p r = 0) := sgn_zero.1 HG.out.symm
                  have HY2 : Hid (New wr w5.drew) := HY.out.dr
                  clear HY
                  have HY := HY2
                  clear HY2
                  go_wp2_with fail
                  go_region_held3 (fun V => V.cell? ⟨g, off + i * 2, none⟩ = some (.int .i64 q.1) ∧ V.cell? ⟨g, off + i * 2 + 1, none⟩ = some (.int .i64 q.2) ∧ V.cell? ⟨g, off + k * 2, none⟩ = some (.int .i64 p.1) ∧ V.cell? ⟨g, off + k * 2 + 1, none⟩ = some (.int .i64 p.2) ∧ V.cell? ⟨g, off + j * 2, none⟩ = some (.int .i64 r.1) ∧ V.cell? ⟨g, off + j * 2 + 1, none⟩ = some (.int .i64 r.2))
                    (first | (have t := HX.out _ HY.out; exact ⟨t.q0, t.q1, t.p0, t.p1, t.r0, t.r1⟩))
                    (first | (go_at_call 48; refine (on_any p.1 p.2 r.1 r.2 q.1 q.2 _ HCd.out.2.1.1 HCd.out.2.1.2 HCd.out.2.2.1 HCd.out.2.2.2 HCd.out.1.1 HCd.out.1.2).mono ?_; rintro e w6 ⟨rfl, H5⟩; replace HY : Hid (New wr w6) := HY.out.trans' H5.out; clear H5))
                  have HY2 : Hid (New wr w6.drew) := HY.out.dr
                  clear HY
                  have HY := HY2
                  clear HY2
                  go_wp2_with fail
                  go_region_held3 (fun V => V.cell? ⟨g, off + i * 2, none⟩ = some (.int .i64 q.1) ∧ V.cell? ⟨g, off + i * 2 + 1, none⟩ = some (.int .i64 q.2) ∧ V.cell? ⟨g, off + j * 2, none⟩ = some (.int .i64 r.1) ∧ V.cell? ⟨g, off + j * 2 + 1, none⟩ = some (.int .i64 r.2))
                    (first | (have t := HX.out _ HY.out; exact ⟨t.q0, t.q1, t.r0, t.r1⟩))
                    (first | (go_at_call 49; refine (same_any r.1 r.2 q.1 q.2 _).mono ?_; rintro e w7 ⟨rfl, H5⟩; replace HY : Hid (New wr w7) := HY.out.trans' H5.out; clear H5))
                  cases ho : onB (p.1, p.2) (r.1, r.2) (q.1, q.2) with
                  | false =>
                    have HO : Hid (okJ q p r = true) := by rw [Hid, okJ, HD.out, show onB p r q = false from ho]; rfl
                    go_wp2_with fail
                    go_roundw
                    case rel => exact ⟨okJ q p r, j + 1, by rw [HO.out], by go_num, hj', HJ.out.1.trans' HY.out, HT.out.symm⟩
                    case measure => simp [intOf]; omega
                  | true =>
                    cases hs2 : sameB (r.1, r.2) (q.1, q.2) with
                    | false =>
                      have HO : Hid (okJ q p r = false) := by rw [Hid, okJ, HD.out, show onB p r q = true from ho, show sameB r q = false from hs2]; rfl
                      go_wp2_with fail
                      go_roundw
                      case rel => exact ⟨okJ q p r, j + 1, by rw [HO.out], by go_num, hj', HJ.out.1.trans' HY.out, HT.out.symm⟩
                      case measure => simp [intOf]; omega
                    | true =>
                      have HO : Hid (okJ q p r = true) := by rw [Hid, okJ, HD.out, show onB p r q = true from ho, show sameB r q = true from hs2]; rfl
                      go_wp2_with fail
                      go_roundw
                      case rel => exact ⟨okJ q p r, j + 1, by rw [HO.out], by go_num, hj', HJ.out.1.trans' HY.out, HT.out.symm⟩
                      case measure => simp [intOf]; omega
                · have g1 : decide (sg = 0) = false := by simpa using h0
                  have g2 : (sg == 0) = false := by simpa using h0
                  go_wp2_with fail
                  go_quiet (fail)
                  have HY2 : Hid (New wr (w5.drewN nq).drew) := (HY.out.drewN nq).dr
                  clear HY
                  have HY := HY2
                  clear HY2
                  have HD : Hid (¬D q p r = 0) := fun h => h0 (by rw [HG.out, sgn_zero.2 h])
                  generalize w5.drewN nq = W at *
                  go_wp2_with fail
                  go_region_held3 (fun V => V.cell? ⟨g, off + i * 2, none⟩ = some (.int .i64 q.1) ∧ V.cell? ⟨g, off + i * 2 + 1, none⟩ = some (.int .i64 q.2) ∧ V.cell? ⟨g, off + j * 2, none⟩ = some (.int .i64 r.1) ∧ V.cell? ⟨g, off + j * 2 + 1, none⟩ = some (.int .i64 r.2))
                    (first | (have t := HX.out _ HY.out; exact ⟨t.q0, t.q1, t.r0, t.r1⟩))
                    (first | (go_at_call 49; refine (same_any r.1 r.2 q.1 q.2 _).mono ?_; rintro e w7 ⟨rfl, H5⟩; replace HY : Hid (New wr w7) := HY.out.trans' H5.out; clear H5))
                  by_cases h1 : 0 ≤ sg
                  · have HO : Hid (okJ q p r = true) := by
                      have : 0 ≤ D q p r := by have h2 := HG.out; rcases sgn_cases (D q p r) with h | h | h <;> omega
                      rw [Hid, okJ, decide_eq_true this, decide_eq_false HD.out]
                      rfl
                    have g4 : decide (0 ≤ sg) = true := decide_eq_true h1
                    go_wp2_with fail
                    go_roundw
                    case rel => exact ⟨okJ q p r, j + 1, by rw [HO.out], by go_num, hj', HJ.out.1.trans' HY.out, HT.out.symm⟩
                    case measure => simp [intOf]; omega
                  · have HO : Hid (okJ q p r = false) := by
                      have : ¬0 ≤ D q p r := by have h2 := HG.out; rcases sgn_cases (D q p r) with h | h | h <;> omega
                      rw [Hid, okJ, decide_eq_false this]
                      rfl
                    have g4 : decide (0 ≤ sg) = false := decide_eq_false h1
                    go_wp2_with fail
                    go_roundw
                    case rel => exact ⟨okJ q p r, j + 1, by rw [HO.out], by go_num, hj', HJ.out.1.trans' HY.out, HT.out.symm⟩
                    case measure => simp [intOf]; omega
            · have hje : j = l.length := by omega
              subst hje
              cases b with
              | false =>
                have HA : Hid ((l.take (k + 1)).any (goodK l q) = false) := by
                  rw [Hid, any_take HK.out.1, H.out.2]
                  unfold goodK
                  rw [all_short HJ.out.2.symm]
                  simp
                go_wp2_with fail
                go_roundw
                case rel => exact ⟨k + 1, by go_num, hk', H.out.1.trans' HJ.out.1, HA.out⟩
                case measure => simp [intOf]; omega
              | true =>
                have HA : Hid (cornerB l i = true) := by
                  rw [Hid, HF.out, List.any_eq_true]
                  refine ⟨p, List.mem_of_getElem? HK.out.1, ?_⟩
                  unfold goodK
                  have := HJ.out.2
                  rw [List.take_length] at this
                  rw [HS.out, ← this]
                  rfl
                go_wp2_with fail
                go_ret
                exact ⟨by rw [HA.out]; rfl, H.out.1.trans' HJ.out.1⟩
      · have e : k = l.length := by omega
        subst e
        have HE : Hid (cornerB l i = false) := by rw [Hid, HF.out, ← H.out.2, List.take_length]
        go_wp2_with fail
        go_ret
        exact ⟨by rw [HE.out]; rfl, H.out.1⟩
end Go.Proofs.Ytgeoffpcmkofkaa
/- plumbref's 'next'. -/
namespace Go.Proofs.Ytgeoffpcmkofkaa
open Go.RowKit Fl
set_option maxRecDepth 100000
attribute [local go_sem ↓] Go.wp_at_zero Go.wp_at_succ

/-- The point with a number. -/
def pN (l : Pts) (i : Nat) : Pt := (l[i]?).getD (0, 0)
def leftJ (l : Pts) (a k j : Nat) : Bool := decide (0 ≤ D (pN l a) (pN l k) (pN l j))
def nextB (l : Pts) (cs : List Nat) (a k : Nat) : Bool := decide (k ≠ a) && cs.all (leftJ l a k)
def nextN (l : Pts) (cs : List Nat) (a : Nat) : Nat := (cs.find? (nextB l cs a)).getD a
/-- Numbers in a row. -/
def NumsAt (w : World) (g : Nat) (cs : List Nat) : Prop := ∀ (i n : Nat), cs[i]? = some n → w.cell? ⟨g, i, none⟩ = some (.int .i64 (n : Int))
theorem allN_take {cs : List Nat} {f : Nat → Bool} {j r : Nat} (h : cs[j]? = some r) : (cs.take (j + 1)).all f = ((cs.take j).all f && f r) := by
  rw [List.take_add_one, h]
  simp
theorem allN_short {cs : List Nat} {f : Nat → Bool} {j : Nat} (h : (cs.take j).all f = false) : cs.all f = false := by
  rw [Bool.eq_false_iff] at h ⊢
  intro h2
  apply h
  rw [List.all_eq_true] at h2 ⊢
  exact fun x hx => h2 x (List.mem_of_mem_take hx)
theorem find_take {cs : List Nat} {f : Nat → Bool} {j r : Nat} (h : cs[j]? = some r) (h1 : (cs.take j).find? f = none) (h2 : f r = false) : (cs.take (j + 1)).find? f = none := by
  rw [List.take_add_one, h, List.find?_append, h1]
  simp [h2]
theorem find_here {cs : List Nat} {f : Nat → Bool} {j r : Nat} (h : cs[j]? = some r) (h1 : (cs.take j).find? f = none) (h2 : f r = true) : cs.find? f = some r := by
  have e : cs = cs.take j ++ cs.drop j := (List.take_append_drop j cs).symm
  rw [e, List.find?_append, h1]
  have hj := (List.getElem?_eq_some_iff.1 h).1
  have : cs.drop j = r :: cs.drop (j + 1) := by
    rw [List.drop_eq_getElem_cons hj]
    congr 1
    rw [List.getElem?_eq_getElem hj] at h
    injection h
  rw [this]
  simp [h2]

set_option maxHeartbeats 3200000 in
theorem next_any (g off cap gc cc : Nat) (l : Pts) (cs : List Nat) (a : Nat) (w : World) (hp : PtsAt w g off l) (hg : g < w.heap.size) (hc : ∀ x ∈ l, CdP x) (ha : a < l.length) (hn : NumsAt w gc cs) (hcs : ∀ n ∈ cs, n < l.length) (hcl : cs.length ≤ 1000000) :
    Calls Try.prog 53 #[.slice (some ⟨g, off, none⟩) l.length cap, .slice (some ⟨gc, 0, none⟩) cs.length cc, .int .i64 (a : Int)] w fun e w' => e = .returned (.int .i64 (nextN l cs a : Int)) ∧ Hid (New w w') := by
  have HP : Hid (PtsAt w g off l ∧ g < w.heap.size ∧ (∀ x ∈ l, CdP x) ∧ NumsAt w gc cs ∧ ∀ n ∈ cs, n < l.length) := ⟨hp, hg, hc, hn, hcs⟩
  clear hp hg hc hn hcs
  have HF : Hid (∀ V, New w V → ∀ n, n < l.length → V.cell? ⟨g, off + n * 2, none⟩ = some (.int .i64 (pN l n).1) ∧ V.cell? ⟨g, off + n * 2 + 1, none⟩ = some (.int .i64 (pN l n).2)) := fun V hV n hn => by
    have := HP.out.1.kept HP.out.2.1 hV n hn
    rw [show pN l n = l[n] by simp [pN, hn]]
    exact this
  have HD : Hid (∀ n, n < l.length → CdP (pN l n)) := fun n hn => by rw [show pN l n = l[n] by simp [pN, hn]]; exact HP.out.2.2.1 _ (List.getElem_mem hn)
  have b0 : (0 : Int) ≤ (a : Int) := by omega
  have b1 : (a : Int) < (l.length : Int) := by omega
  go_enter Try.func53, Try.ntmps53
  go_wp2_with fail
  go_loopw [7] (fun v wr => ∃ k : Nat, v = .int .i64 (k : Int) ∧ k ≤ cs.length ∧ Hid (New w wr ∧ (cs.take k).find? (nextB l cs a) = none)) (fun v _ => cs.length - (intOf v).toNat)
  case atStart => exact ⟨0, rfl, Nat.zero_le _, New.refl _, rfl⟩
  case round =>
    obtain ⟨k, rfl, hk, H⟩ := hrel
    rcases Nat.lt_or_ge k cs.length with hk' | hk'
    · obtain ⟨n, hne⟩ : ∃ n, cs[k]? = some n := ⟨_, List.getElem?_eq_getElem hk'⟩
      have HK : Hid (cs[k]? = some n) := hne
      have hnl : n < l.length := HP.out.2.2.2.2 n (List.mem_of_getElem? hne)
      have x0 := H.out.1.kept' (HP.out.2.2.2.1 k n hne)
      clear hne
      have c0 : (0 : Int) ≤ (k : Int) := by omega
      have c1 : (k : Int) < (cs.length : Int) := by omega
      have hw1 : IntKind.i64.wrap ((k : Int) + 1) = (k : Int) + 1 := by rw [IntKind.wrap_i64]; omega
      obtain ⟨b, hb⟩ : ∃ b, b = decide (n ≠ a) := ⟨_, rfl⟩
      have hb' : ((n : Int) != (a : Int)) = b := by
        rw [hb]
        by_cases h : n = a
        · simp [h]
        · have h2 : (n : Int) ≠ (a : Int) := by omega
          rw [decide_eq_true h]
          exact bne_iff_ne.2 h2
      have HB : Hid (b = decide (n ≠ a)) := hb
      clear hb
      go_wp2_with fail
      have HW : Hid (New wr wr) := New.refl _
      clear x0
      go_loopw [9, 10] (fun u v w4 => ∃ (b' : Bool) (j : Nat), u = .bool b' ∧ v = .int .i64 (j : Int) ∧ j ≤ cs.length ∧ Hid (New wr w4 ∧ b' = (b && (cs.take j).all (leftJ l a n)))) (fun _ v _ => cs.length - (intOf v).toNat)
      case atStart => exact ⟨b, 0, rfl, rfl, Nat.zero_le _, HW.out, by simp⟩
      case round =>
        obtain ⟨b', j, rfl, rfl, hj, HJ⟩ := hrel
        rcases Nat.lt_or_ge j cs.length with hj' | hj'
        · have d1 : (j : Int) < (cs.length : Int) := by omega
          cases b' with
          | false =>
            have HA : Hid ((cs.take (k + 1)).find? (nextB l cs a) = none) := find_take HK.out H.out.2 (by
              unfold nextB
              rcases Bool.eq_false_or_eq_true (decide (n ≠ a)) with h | h
              · rw [h] at HB
                have h2 := HJ.out.2
                rw [HB.out, Bool.true_and] at h2
                rw [h, allN_short h2.symm]
                rfl
              · rw [h]
                rfl)
            go_wp2_with fail
            go_roundw
            case rel => exact ⟨k + 1, by go_num, hk', H.out.1.trans' HJ.out.1, HA.out⟩
            case measure => simp [intOf]; omega
          | true =>
            obtain ⟨m, hme⟩ : ∃ m, cs[j]? = some m := ⟨_, List.getElem?_eq_getElem hj'⟩
            have HM : Hid (cs[j]? = some m) := hme
            have hml : m < l.length := HP.out.2.2.2.2 m (List.mem_of_getElem? hme)
            clear hme
            have d0 : (0 : Int) ≤ (j : Int) := by omega
            have m0 : (0 : Int) ≤ (m : Int) := by omega
            have m1 : (m : Int) < (l.length : Int) := by omega
            have n0 : (0 : Int) ≤ (n : Int) := by omega
            have n1 : (n : Int) < (l.length : Int) := by omega
            have hw2 : IntKind.i64.wrap ((j : Int) + 1) = (j : Int) + 1 := by rw [IntKind.wrap_i64]; omega
            have HT : Hid ((b && (cs.take (j + 1)).all (leftJ l a n)) = leftJ l a n m) := by
              have h2 := HJ.out.2
              rw [Hid, allN_take HM.out, ← Bool.and_assoc, ← h2]
              rfl
            have HX : Hid (∀ V, New wr V → V.cell? ⟨g, off + a * 2, none⟩ = some (.int .i64 (pN l a).1) ∧ V.cell? ⟨g, off + a * 2 + 1, none⟩ = some (.int .i64 (pN l a).2) ∧ V.cell? ⟨g, off + n * 2, none⟩ = some (.int .i64 (pN l n).1) ∧ V.cell? ⟨g, off + n * 2 + 1, none⟩ = some (.int .i64 (pN l n).2) ∧ V.cell? ⟨g, off + m * 2, none⟩ = some (.int .i64 (pN l m).1) ∧ V.cell? ⟨g, off + m * 2 + 1, none⟩ = some (.int .i64 (pN l m).2) ∧ V.cell? ⟨gc, j, none⟩ = some (.int .i64 (m : Int))) := fun V hV => by
              have hN := (H.out.1.trans' HJ.out.1).trans' hV
              have f1 := HF.out V hN a ha
              have f2 := HF.out V hN n hnl
              have f3 := HF.out V hN m hml
              exact ⟨f1.1, f1.2, f2.1, f2.2, f3.1, f3.2, hN.kept' (HP.out.2.2.2.1 j m HM.out)⟩
            have HY : Hid (New wr wr.drew) := (New.refl _).dr
            have HCd : Hid (CdP (pN l a) ∧ CdP (pN l n) ∧ CdP (pN l m)) := ⟨HD.out a ha, HD.out n hnl, HD.out m hml⟩
            go_wp2_with fail
            go_region_held3 (fun V => V.cell? ⟨g, off + a * 2, none⟩ = some (.int .i64 (pN l a).1) ∧ V.cell? ⟨g, off + a * 2 + 1, none⟩ = some (.int .i64 (pN l a).2) ∧ V.cell? ⟨g, off + n * 2, none⟩ = some (.int .i64 (pN l n).1) ∧ V.cell? ⟨g, off + n * 2 + 1, none⟩ = some (.int .i64 (pN l n).2) ∧ V.cell? ⟨g, off + m * 2, none⟩ = some (.int .i64 (pN l m).1) ∧ V.cell? ⟨g, off + m * 2 + 1, none⟩ = some (.int .i64 (pN l m).2) ∧ V.cell? ⟨gc, j, none⟩ = some (.int .i64 (m : Int)))
              (first | exact HX.out _ HY.out)
              (first | (go_at_call 13; refine (refSide_any (pN l a).1 (pN l a).2 (pN l n).1 (pN l n).2 (pN l m).1 (pN l m).2 _ HCd.out.1.1 HCd.out.1.2 HCd.out.2.1.1 HCd.out.2.1.2 HCd.out.2.2.1 HCd.out.2.2.2).mono ?_; rintro e w5 ⟨rfl, H5⟩; replace HY : Hid (New wr w5) := HY.out.trans' H5.out; clear H5))
            have HO : Hid (decide (0 ≤ sgn (det (pN l a).1 (pN l a).2 (pN l n).1 (pN l n).2 (pN l m).1 (pN l m).2)) = leftJ l a n m) := by
              rw [Hid, leftJ]
              have : (0 ≤ sgn (det (pN l a).1 (pN l a).2 (pN l n).1 (pN l n).2 (pN l m).1 (pN l m).2)) ↔ 0 ≤ D (pN l a) (pN l n) (pN l m) := by
                unfold D
                rcases sgn_cases (det (pN l a).1 (pN l a).2 (pN l n).1 (pN l n).2 (pN l m).1 (pN l m).2) with h | h | h <;> omega
              exact decide_eq_decide.2 this
            go_wp2_with fail
            go_roundw
            case rel => exact ⟨leftJ l a n m, j + 1, by rw [← HO.out], by go_num, hj', HJ.out.1.trans' HY.out, HT.out.symm⟩
            case measure => simp [intOf]; omega
        · have hje : j = cs.length := by omega
          subst hje
          cases b' with
          | false =>
            have HA : Hid ((cs.take (k + 1)).find? (nextB l cs a) = none) := find_take HK.out H.out.2 (by
              unfold nextB
              rcases Bool.eq_false_or_eq_true (decide (n ≠ a)) with h | h
              · rw [h] at HB
                have h2 := HJ.out.2
                rw [HB.out, Bool.true_and] at h2
                rw [h, allN_short h2.symm]
                rfl
              · rw [h]
                rfl)
            go_wp2_with fail
            go_roundw
            case rel => exact ⟨k + 1, by go_num, hk', H.out.1.trans' HJ.out.1, HA.out⟩
            case measure => simp [intOf]; omega
          | true =>
            have HA : Hid (nextN l cs a = n) := by
              have h2 := HJ.out.2
              rw [List.take_length] at h2
              have h3 := h2.symm
              rw [Bool.and_eq_true] at h3
              rw [Hid, nextN, find_here HK.out H.out.2 (by unfold nextB; rw [← HB.out, h3.1, h3.2]; rfl)]
              rfl
            go_wp2_with fail
            go_ret
            exact ⟨by rw [HA.out]; rfl, H.out.1.trans' HJ.out.1⟩
    · have e : k = cs.length := by omega
      subst e
      have HE : Hid (nextN l cs a = a) := by
        have := H.out.2
        rw [List.take_length] at this
        rw [Hid, nextN, this]
        rfl
      go_wp2_with fail
      go_ret
      exact ⟨by rw [HE.out]; rfl, H.out.1⟩
end Go.Proofs.Ytgeoffpcmkofkaa
/- plumblaw's 'sameInts', of two rows that hold the same. -/
namespace Go.Proofs.Ytgeoffpcmkofkaa
open Go.RowKit Fl
set_option maxRecDepth 100000
attribute [local go_sem ↓] Go.wp_at_zero Go.wp_at_succ

/-- Numbers in a row that may be nil. -/
def IntsAt (w : World) (ao : Option Addr) (xs : List Int) : Prop := 0 < xs.length → ∃ g, ao = some ⟨g, 0, none⟩ ∧ ∀ (i : Nat) (x : Int), xs[i]? = some x → w.cell? ⟨g, i, none⟩ = some (.int .i64 x)
set_option maxHeartbeats 1600000 in
theorem sameInts_eq (a1 a2 : Option Addr) (c1 c2 : Nat) (xs : List Int) (w : World) (h1 : IntsAt w a1 xs) (h2 : IntsAt w a2 xs) (hl : xs.length ≤ 1000000) :
    Calls Try.prog 33 #[.slice a1 xs.length c1, .slice a2 xs.length c2] w fun e w' => e = .returned (.bool true) ∧ Hid (New w w') := by
  have HP : Hid (IntsAt w a1 xs ∧ IntsAt w a2 xs) := ⟨h1, h2⟩
  clear h1 h2
  have hne : ((xs.length : Int) != (xs.length : Int)) = false := by simp
  go_enter Try.func33, Try.ntmps33
  go_wp2_with fail
  go_loopw [5] (fun v wr => ∃ k : Nat, v = .int .i64 (k : Int) ∧ k ≤ xs.length ∧ Hid (New w wr)) (fun v _ => xs.length - (intOf v).toNat)
  case atStart => exact ⟨0, rfl, Nat.zero_le _, New.refl _⟩
  case round =>
    obtain ⟨k, rfl, hk, H⟩ := hrel
    rcases Nat.lt_or_ge k xs.length with hk' | hk'
    · obtain ⟨g1, e1, f1⟩ := HP.out.1 (by omega)
      obtain ⟨g2, e2, f2⟩ := HP.out.2 (by omega)
      subst e1 e2
      obtain ⟨x, hx⟩ : ∃ x, xs[k]? = some x := ⟨_, List.getElem?_eq_getElem hk'⟩
      have y1 := H.out.kept' (f1 k x hx)
      have y2 := H.out.kept' (f2 k x hx)
      clear f1 f2 hx
      have c0 : (0 : Int) ≤ (k : Int) := by omega
      have c1' : (k : Int) < (xs.length : Int) := by omega
      have hw1 : IntKind.i64.wrap ((k : Int) + 1) = (k : Int) + 1 := by rw [IntKind.wrap_i64]; omega
      have hx2 : (x != x) = false := by simp
      go_wp2_with fail
      go_quiet (fail)
      go_wp2_with fail
      go_roundw
      case rel => exact ⟨k + 1, by go_num, hk', H.out.drewN _⟩
      case measure => simp [intOf]; omega
    · go_wp2_with fail
      go_ret
      exact ⟨rfl, H.out⟩
end Go.Proofs.Ytgeoffpcmkofkaa
/- The walks of plumbref's 'Bad' and of the law 'Sides'. -/
namespace Go.Proofs.Ytgeoffpcmkofkaa
open Go.RowKit Fl Dg
set_option maxRecDepth 100000

theorem cd_cases (n : Int) : (n < -9007199254740992 ∧ cdB n = false) ∨ (9007199254740992 < n ∧ cdB n = false) ∨ (-9007199254740992 ≤ n ∧ n ≤ 9007199254740992 ∧ cdB n = true) := by
  by_cases h1 : n < -9007199254740992
  · exact Or.inl ⟨h1, by simp [cdB]; omega⟩
  · by_cases h2 : 9007199254740992 < n
    · exact Or.inr (Or.inl ⟨h2, by simp [cdB]; omega⟩)
    · exact Or.inr (Or.inr ⟨by omega, by omega, by simp [cdB]; omega⟩)

set_option maxHeartbeats 1600000 in
theorem bad_any (g off cap : Nat) (l : Pts) (w : World) (h : PtsAt w g off l) (hc : l.length ≤ cap) (hs : cap ≤ 100000000000000) :
    Calls Try.prog 12 #[.slice (some ⟨g, off, none⟩) l.length cap] w fun e w' => e = .returned (.bool (!okB l)) ∧ w = w' := by
  go_enter Try.func12, Try.ntmps12
  go_wp2_with fail
  go_loop [3] (fun i => ∃ k : Nat, i = .int .i64 k ∧ k ≤ l.length ∧ Hid (okB (l.take k) = true))
    (fun i => l.length - (intOf i).toNat)
  case atStart => exact ⟨0, rfl, Nat.zero_le _, rfl⟩
  case round =>
    obtain ⟨k, rfl, hle, H⟩ := hrel
    by_cases hk : k < l.length
    · have hc1 := (h k hk).1
      have hc2 := (h k hk).2
      obtain ⟨x, hx⟩ : ∃ x, x = l[k].1 := ⟨_, rfl⟩
      obtain ⟨y, hy⟩ : ∃ y, y = l[k].2 := ⟨_, rfl⟩
      rw [← hx] at hc1
      rw [← hy] at hc2
      have HX : Hid (x = l[k].1 ∧ y = l[k].2) := ⟨hx, hy⟩
      clear hx hy
      have fin : cdB x = false ∨ cdB y = false → (!okB l) = true := fun hh => by rw [okB_bad hk (by rw [← HX.out.1, ← HX.out.2]; exact hh)]; rfl
      have FIN : Hid (cdB x = false ∨ cdB y = false → (!okB l) = true) := fin
      clear fin
      rcases cd_cases x with ⟨q1, qx⟩ | ⟨q1, qx⟩ | ⟨q1, q2, qx⟩
      · have HF : Hid ((!okB l) = true) := FIN.out (Or.inl qx)
        clear qx
        go_wp2_with fail
        go_ret
        exact ⟨by rw [HF.out]; rfl, rfl⟩
      · have HF : Hid ((!okB l) = true) := FIN.out (Or.inl qx)
        clear qx
        go_wp2_with fail
        go_ret
        exact ⟨by rw [HF.out]; rfl, rfl⟩
      · have HQ : Hid (cdB x = true) := qx
        clear qx
        rcases cd_cases y with ⟨p1, py⟩ | ⟨p1, py⟩ | ⟨p1, p2, py⟩
        · have HF : Hid ((!okB l) = true) := FIN.out (Or.inr py)
          clear py
          go_wp2_with fail
          go_ret
          exact ⟨by rw [HF.out]; rfl, rfl⟩
        · have HF : Hid ((!okB l) = true) := FIN.out (Or.inr py)
          clear py
          go_wp2_with fail
          go_ret
          exact ⟨by rw [HF.out]; rfl, rfl⟩
        · have HP : Hid (cdB y = true) := py
          clear py
          go_wp2_with fail
          go_round
          case rel => exact ⟨k + 1, by go_num, hk, okB_take hk H.out (by rw [← HX.out.1]; exact HQ.out) (by rw [← HX.out.2]; exact HP.out)⟩
          case measure => simp [intOf]; omega
    · have hk2 : k = l.length := by omega
      subst hk2
      have HO : Hid (okB l = true) := by have := H.out; rwa [List.take_length] at this
      go_wp2_with fail
      go_ret
      exact ⟨by rw [HO.out]; rfl, rfl⟩

theorem bad3 (ax ay bx by' cx cy : Int) (W : World) (g : Nat) (hg : g = W.heap.size) :
    Calls Try.prog 12 #[.slice (some ⟨g, 0, none⟩) 3 3] (W.alloc (.cells #[.int .i64 ax, .int .i64 ay, .int .i64 bx, .int .i64 by', .int .i64 cx, .int .i64 cy] 23)) fun e w' =>
      e = .returned (.bool (!okB [(ax, ay), (bx, by'), (cx, cy)])) ∧ Hid (New W w') := by
  subst hg
  refine (bad_any W.heap.size 0 3 [(ax, ay), (bx, by'), (cx, cy)] _ (ptsAt3 (_root_.Go.heap_alloc_new W _)) (by simp) (by omega)).mono ?_
  rintro e w1 ⟨rfl, rfl⟩
  exact ⟨rfl, New.alloc W _⟩

theorem bad4 (ax ay bx by' cx cy dx dy : Int) (W : World) (g : Nat) (hg : g = W.heap.size) :
    Calls Try.prog 12 #[.slice (some ⟨g, 0, none⟩) 4 4] (W.alloc (.cells #[.int .i64 ax, .int .i64 ay, .int .i64 bx, .int .i64 by', .int .i64 cx, .int .i64 cy, .int .i64 dx, .int .i64 dy] 23)) fun e w' =>
      e = .returned (.bool (!okB [(ax, ay), (bx, by'), (cx, cy), (dx, dy)])) ∧ Hid (New W w') := by
  subst hg
  refine (bad_any W.heap.size 0 4 [(ax, ay), (bx, by'), (cx, cy), (dx, dy)] _ (ptsAt4 (_root_.Go.heap_alloc_new W _)) (by simp) (by omega)).mono ?_
  rintro e w1 ⟨rfl, rfl⟩
  exact ⟨rfl, New.alloc W _⟩

set_option maxHeartbeats 1600000 in
theorem sides_bad (ax ay bx by' cx cy : Int) (w : World) (hok : okB [(ax, ay), (bx, by'), (cx, cy)] = false) :
    Calls Try.prog 3 #[.agg #[.int .i64 ax, .int .i64 ay], .agg #[.int .i64 bx, .int .i64 by'], .agg #[.int .i64 cx, .int .i64 cy]] w fun e w' => e = .returned (.bool true) ∧ Hid (New w w') := by
  have HO : Hid (okB [(ax, ay), (bx, by'), (cx, cy)] = false) := hok
  have HN : Hid ((!okB [(ax, ay), (bx, by'), (cx, cy)]) = true) := by rw [Hid, hok]; rfl
  clear hok
  go_enter Try.func3, Try.ntmps3
  go_wp2_with fail
  refine (side_bad ax ay bx by' cx cy _ HO.out).mono ?_
  rintro e w1 ⟨rfl, H1⟩
  have r1 := H1.out.rule
  go_wp2_with fail
  refine (bad3 ax ay bx by' cx cy _ _ (by simp)).mono ?_
  rintro e w2 ⟨rfl, H2⟩
  have hN := HN.out
  clear r1
  go_wp2_with fail
  go_ret
  exact ⟨rfl, ((((New.alloc _ _).alloc' _).alloc' _).trans' H1.out).trans' H2.out⟩

set_option maxHeartbeats 1600000 in
theorem sides_ok (ax ay bx by' cx cy : Int) (w : World) (hok : okB [(ax, ay), (bx, by'), (cx, cy)] = true) :
    Calls Try.prog 3 #[.agg #[.int .i64 ax, .int .i64 ay], .agg #[.int .i64 bx, .int .i64 by'], .agg #[.int .i64 cx, .int .i64 cy]] w fun e w' => e = .returned (.bool true) ∧ Hid (New w w') := by
  have HO : Hid (okB [(ax, ay), (bx, by'), (cx, cy)] = true) := hok
  have HN : Hid ((!okB [(ax, ay), (bx, by'), (cx, cy)]) = false) := by rw [Hid, hok]; rfl
  have HC : Hid ((Cd ax ∧ Cd ay) ∧ (Cd bx ∧ Cd by') ∧ (Cd cx ∧ Cd cy)) := ⟨okB_cd hok (p := (ax, ay)) (by simp), okB_cd hok (p := (bx, by')) (by simp), okB_cd hok (p := (cx, cy)) (by simp)⟩
  clear hok
  go_enter Try.func3, Try.ntmps3
  go_wp2_with fail
  refine (side_ok ax ay bx by' cx cy _ HO.out).mono ?_
  rintro e w1 ⟨rfl, H1⟩
  have r1 := H1.out.rule
  go_wp2_with fail
  refine (bad3 ax ay bx by' cx cy _ _ (by simp)).mono ?_
  rintro e w2 ⟨rfl, H2⟩
  have hN := HN.out
  have r2 := (H1.out.trans' H2.out).rule
  clear r1
  go_wp2_with fail
  refine (refSide_any ax ay bx by' cx cy _ HC.out.1.1 HC.out.1.2 HC.out.2.1.1 HC.out.2.1.2 HC.out.2.2.1 HC.out.2.2.2).mono ?_
  rintro e w3 ⟨rfl, H3⟩
  clear r2
  go_wp2_with fail
  go_ret
  exact ⟨rfl, (((((New.alloc _ _).alloc' _).alloc' _).trans' H1.out).trans' H2.out).trans' H3.out⟩

theorem sides_any (ax ay bx by' cx cy : Int) (w : World) :
    Calls Try.prog 3 #[.agg #[.int .i64 ax, .int .i64 ay], .agg #[.int .i64 bx, .int .i64 by'], .agg #[.int .i64 cx, .int .i64 cy]] w fun e w' => e = .returned (.bool true) ∧ Hid (New w w') := by
  cases hok : okB [(ax, ay), (bx, by'), (cx, cy)] with
  | true => exact sides_ok ax ay bx by' cx cy w hok
  | false => exact sides_bad ax ay bx by' cx cy w hok

end Go.Proofs.Ytgeoffpcmkofkaa
/- The walks of plumblaw's 'back' and, over any list, of plumbref's 'Bad'. -/
namespace Go.Proofs.Ytgeoffpcmkofkaa
open Go.RowKit Fl
set_option maxRecDepth 100000
attribute [local go_sem ↓] Go.wp_at_zero Go.wp_at_succ

set_option maxHeartbeats 800000 in
theorem bad_none (ao : Option Addr) (cap : Nat) (w : World) : Calls Try.prog 12 #[.slice ao 0 cap] w fun e w' => e = .returned (.bool (!okB [])) ∧ w = w' := by
  go_enter Try.func12, Try.ntmps12
  go_wp2_with fail
  go_loop [3] (fun iv => iv = .int .i64 0) (fun _ => 0)
  case atStart => rfl
  case round =>
    subst hrel
    go_wp2_with fail
    go_ret
    exact ⟨rfl, rfl⟩
theorem bad_poly (ao : Option Addr) (cap : Nat) (l : Pts) (w : World) (h : PolyAt w ao l) (hc : l.length ≤ cap) (hs : cap ≤ 100000000000000) :
    Calls Try.prog 12 #[.slice ao l.length cap] w fun e w' => e = .returned (.bool (!okB l)) ∧ w = w' := by
  match l, h, hc with
  | [], _, _ => exact bad_none ao cap w
  | q :: l, h, hc =>
    obtain ⟨g, off, rfl, h1, h2⟩ := h (by simp)
    exact bad_any g off cap (q :: l) w h1 hc hs
theorem bad1 (ax ay : Int) (W : World) (g : Nat) (hg : g = W.heap.size) :
    Calls Try.prog 12 #[.slice (some ⟨g, 0, none⟩) 1 1] (W.alloc (.cells #[.int .i64 ax, .int .i64 ay] 23)) fun e w' => e = .returned (.bool (!okB [(ax, ay)])) ∧ Hid (New W w') := by
  subst hg
  refine (bad_any W.heap.size 0 1 [(ax, ay)] _ (ptsAt1 (_root_.Go.heap_alloc_new W _)) (by simp) (by omega)).mono ?_
  rintro e w1 ⟨rfl, rfl⟩
  exact ⟨rfl, New.alloc W _⟩

set_option maxHeartbeats 1600000 in
theorem back_any (b : Nat) (ao : Option Addr) (cap : Nat) (l : Pts) (w : World) (h1 : PtsAt w b 0 (l ++ [(0, 0)])) (h2 : PolyAt w ao l) (hs : cap ≤ 10000000000000) (hc : l.length ≤ cap) :
    Calls Try.prog 28 #[.slice (some ⟨b, 0, none⟩) (l.length + 1) (l.length + 1), .slice ao l.length cap] w fun e w' => e = .returned (.bool true) ∧ Hid (New w w') := by
  have HP : Hid (PtsAt w b 0 (l ++ [(0, 0)]) ∧ PolyAt w ao l) := ⟨h1, h2⟩
  clear h1 h2
  go_enter Try.func28, Try.ntmps28
  go_wp2_with fail
  go_loopw [5] (fun iv wr => ∃ k : Nat, iv = .int .i64 k ∧ k ≤ l.length ∧ Hid (New w wr)) (fun iv _ => l.length - (intOf iv).toNat)
  case atStart => exact ⟨0, rfl, Nat.zero_le _, New.refl _⟩
  case round =>
    obtain ⟨k, rfl, hle, H⟩ := hrel
    have hk0 : (0 : Int) ≤ (k : Int) := by omega
    have hll : (0 : Int) ≤ (l.length : Int) := by omega
    by_cases hk : k < l.length
    · obtain ⟨g, off, hao, hp, _⟩ := HP.out.2 (by omega)
      subst hao
      obtain ⟨x, hx⟩ : ∃ x, x = l[k].1 := ⟨_, rfl⟩
      obtain ⟨y, hy⟩ : ∃ y, y = l[k].2 := ⟨_, rfl⟩
      have u0 : wr.cell? ⟨b, k * 2, none⟩ = some (.int .i64 x) := by
        have := (HP.out.1 k (by simp; omega)).1
        rw [Nat.zero_add, List.getElem_append_left hk, ← hx] at this
        exact H.out.kept this
      have u1 : wr.cell? ⟨b, k * 2 + 1, none⟩ = some (.int .i64 y) := by
        have := (HP.out.1 k (by simp; omega)).2
        rw [Nat.zero_add, List.getElem_append_left hk, ← hy] at this
        exact H.out.kept this
      have v0 : wr.cell? ⟨g, off + k * 2, none⟩ = some (.int .i64 x) := by
        have := (hp k hk).1
        rw [← hx] at this
        exact H.out.kept this
      have v1 : wr.cell? ⟨g, off + k * 2 + 1, none⟩ = some (.int .i64 y) := by
        have := (hp k hk).2
        rw [← hy] at this
        exact H.out.kept this
      have hk1 : (k : Int) < (l.length : Int) := by omega
      have hk2 : (k : Int) < (l.length : Int) + 1 := by omega
      clear hx hy hp
      go_wp2_with fail
      go_region_held3 (fun w' => w'.cell? ⟨b, k * 2, none⟩ = some (.int .i64 x) ∧ w'.cell? ⟨b, k * 2 + 1, none⟩ = some (.int .i64 y) ∧ w'.cell? ⟨g, off + k * 2, none⟩ = some (.int .i64 x) ∧ w'.cell? ⟨g, off + k * 2 + 1, none⟩ = some (.int .i64 y)) (go_keep) (first | fail)
      go_wp2_with fail
      go_roundw
      case rel => exact ⟨k + 1, by go_num, hk, H.out.drewN 1⟩
      case measure => simp [intOf]; omega
    · have hkk : k = l.length := by omega
      subst hkk
      have u0 : wr.cell? ⟨b, l.length * 2, none⟩ = some (.int .i64 0) := by
        have := (HP.out.1 l.length (by simp)).1
        rw [Nat.zero_add, List.getElem_append_right (Nat.le_refl _)] at this
        exact H.out.kept (by simpa using this)
      have u1 : wr.cell? ⟨b, l.length * 2 + 1, none⟩ = some (.int .i64 0) := by
        have := (HP.out.1 l.length (by simp)).2
        rw [Nat.zero_add, List.getElem_append_right (Nat.le_refl _)] at this
        exact H.out.kept (by simpa using this)
      have hk2 : (l.length : Int) < (l.length : Int) + 1 := by omega
      go_wp2_with fail
      go_ret
      exact ⟨rfl, H⟩

end Go.Proofs.Ytgeoffpcmkofkaa
/- plumblaw's 'refused'. -/
namespace Go.Proofs.Ytgeoffpcmkofkaa
open Go.RowKit Fl
set_option maxRecDepth 100000
attribute [local go_sem ↓] Go.wp_at_zero Go.wp_at_succ

set_option maxHeartbeats 800000 in
theorem refused_any (ao : Option Addr) (cap : Nat) (l : Pts) (w : World) (h : PolyAt w ao l) (hc : l.length ≤ cap) (hs : cap ≤ 100000000000000) :
    Calls Try.prog 30 #[.slice ao l.length cap] w fun e w' => e = .returned (.int .i64 (errL l)) ∧ Hid (New w w') := by
  go_enter Try.func30, Try.ntmps30
  go_wp2_with fail
  refine (bad_poly ao cap l w h hc hs).mono ?_
  rintro e w1 ⟨rfl, rfl⟩
  by_cases h40 : 40 < l.length
  · have HE : Hid (errL l = 2) := by rw [Hid, errL, if_pos h40]
    have g1 : (40 : Int) < (l.length : Int) := by omega
    go_wp2_with fail
    go_ret
    exact ⟨by rw [HE.out]; rfl, New.refl _⟩
  · have g1 : ¬(40 : Int) < (l.length : Int) := by omega
    cases hb : okB l with
    | false =>
      have HE : Hid (errL l = 1) := by rw [Hid, errL, if_neg h40, okE, hb]; rfl
      go_wp2_with fail
      go_ret
      exact ⟨by rw [HE.out]; rfl, New.refl _⟩
    | true =>
      have HE : Hid (errL l = 0) := by rw [Hid, errL, if_neg h40, okE, hb]; rfl
      go_wp2_with fail
      go_ret
      exact ⟨by rw [HE.out]; rfl, New.refl _⟩
end Go.Proofs.Ytgeoffpcmkofkaa
/- What plumbref's 'Hull' answers; rows of numbers that grow. -/
namespace Go.Proofs.Ytgeoffpcmkofkaa
open Go Go.RowKit Fl
set_option maxRecDepth 100000

/-- The numbers of the corners among the first k points. -/
def cornersTo (l : Pts) : Nat → List Nat
  | 0 => []
  | k + 1 => if cornerB l k then cornersTo l k ++ [k] else cornersTo l k
/-- Which point comes first. -/
def lessP (p q : Pt) : Bool := decide (p.1 < q.1) || (decide (p.1 = q.1) && decide (p.2 < q.2))
/-- The least corner, of the first k, from a on. -/
def leastTo (l : Pts) (cs : List Nat) (a : Nat) : Nat → Nat
  | 0 => a
  | k + 1 => match cs[k]? with
    | some c => if lessP (pN l c) (pN l (leastTo l cs a k)) then c else leastTo l cs a k
    | none => leastTo l cs a k
/-- k corners, one behind the other. -/
def goRound (l : Pts) (cs : List Nat) (a : Nat) : Nat → List Nat
  | 0 => []
  | k + 1 => a :: goRound l cs (nextN l cs a) k
def refHull (l : Pts) : List Nat :=
  match cornersTo l l.length with
  | [] => if l = [] then [] else [0]
  | c :: cs => goRound l (c :: cs) (leastTo l (c :: cs) c (c :: cs).length) (c :: cs).length

theorem cornersTo_lt (l : Pts) : ∀ k, ∀ n ∈ cornersTo l k, n < k
  | 0 => by simp [cornersTo]
  | k + 1 => by
    intro n hn
    unfold cornersTo at hn
    split at hn
    · rcases List.mem_append.1 hn with h | h
      · have := cornersTo_lt l k n h; omega
      · have : n = k := by simpa using h
        omega
    · have := cornersTo_lt l k n hn; omega
theorem cornersTo_len (l : Pts) : ∀ k, (cornersTo l k).length ≤ k
  | 0 => by simp [cornersTo]
  | k + 1 => by
    have := cornersTo_len l k
    unfold cornersTo
    split
    · simp; omega
    · omega
/-- A row of numbers that the call has made. -/
def OwnN (w : World) (base : Nat) (v : Value) (cs : List Nat) : Prop := w.ownsRow base 3 1 v cs.length (cs.map fun (n : Nat) => Value.int .i64 (n : Int))
theorem OwnN.new {w w' : World} {base : Nat} {v : Value} {cs : List Nat} (h : OwnN w base v cs) (hg : New w w') : OwnN w' base v cs := World.ownsRow.kept h hg (by cases v.ownBlock <;> simp)
theorem OwnN.nil (w : World) (base : Nat) : OwnN w base (.slice none 0 0) [] := World.ownsRow_nil _ _ _ _
theorem OwnN.form {w : World} {base : Nat} {v : Value} {cs : List Nat} (h : OwnN w base v cs) : (v = .slice none 0 0 ∧ cs = []) ∨ ∃ g cap, v = .slice (some ⟨g, 0, none⟩) cs.length cap ∧ base ≤ g ∧ g < w.heap.size := by
  rcases h.2 with ⟨e, hn⟩ | ⟨g, cap, cur, e, hb, hg, _⟩
  · exact .inl ⟨e, List.eq_nil_of_length_eq_zero hn⟩
  · exact .inr ⟨g, cap, e, hb, (Array.getElem?_eq_some_iff.1 hg).1⟩
theorem OwnN.nums {w : World} {base g cap : Nat} {cs : List Nat} (h : OwnN w base (.slice (some ⟨g, 0, none⟩) cs.length cap) cs) : NumsAt w g cs := fun i n hn => by
  have hi := (List.getElem?_eq_some_iff.1 hn).1
  rw [World.ownsRow.cellAt h i (by omega)]
  simp [hn]
/-- One number more. -/
theorem OwnN.push {w wr : World} {v : Value} {cs : List Nat} (hn : New w wr) (ho : OwnN wr w.heap.size v cs) (n : Nat) (hl : cs.length ≤ 1000000) :
    ∃ vk wk, (Builtin.append_ #[46, 46] 46 #[v, .slice (some ⟨wr.heap.size, 0, none⟩) 1 1]).run Try.prog (wr.alloc (.cells #[.int .i64 (n : Int)] 3)) = .ok vk wk ∧ Hid (New w wk ∧ OwnN wk w.heap.size vk (cs ++ [n])) := by
  obtain ⟨i0, hi0, hz0, hz1, hz2⟩ := info_parts Try.info3
  obtain ⟨vk, wk, k1, k2, k3, k4⟩ := run_append_own (P := Try.prog) (wr.alloc (.cells #[.int .i64 (n : Int)] 3)) w.heap.size 46 46 3 i0 _ 1 8 Try.underlying46 hi0 hz0 hz1 hz2 rfl (by omega) v cs.length (cs.map fun (n : Nat) => Value.int .i64 (n : Int)) (ho.new (New.alloc _ _)) ⟨wr.heap.size, 0, none⟩ 1 1 [.int .i64 (n : Int)] rfl
    (World.news_of_block (cs := #[.int .i64 (n : Int)]) (t := 3) (fr := (0, 0)) (heap_alloc_new wr _)) (by simp [Value.oneCell']) (by unfold maxLen; omega) (by omega) (by have := hn.size; simp; omega)
  refine ⟨vk, wk, k1, (hn.alloc' _).trans k3 fun g hg => ?_, ?_⟩
  · rcases Nat.lt_or_ge g w.heap.size with h1 | h1
    · exact absurd hg.symm (own_ne ho h1)
    · exact h1
  · unfold OwnN
    rw [List.map_append, List.length_append]
    exact k2
end Go.Proofs.Ytgeoffpcmkofkaa
