/- plumbref's 'next'. -/
import Derived.Test.YtgeoffpcmkofkaaNb
namespace Go.Proofs.Ytgeoffpcmkofkaa
open Go.RowKit Fl
set_option maxRecDepth 100000
attribute [local go_sem ↓] Go.wp_at_zero Go.wp_at_succ

/-- The point with a number. -/
def pN (l : Pts) (i : Nat) : Pt := (l[i]?).getD (0, 0)
def leftJ (l : Pts) (a k j : Nat) : Bool := decide (0 ≤ D (pN l a) (pN l k) (pN l j))
def nextB (l : Pts) (cs : List Nat) (a k : Nat) : Bool := decide (k ≠ a) && cs.all (leftJ l a k)
def nextN (l : Pts) (cs : List Nat) (a : Nat) : Nat := (cs.find? (nextB l cs a)).getD a
/-- Numbers in a row. -/
def NumsAt (w : World) (g : Nat) (cs : List Nat) : Prop := ∀ (i n : Nat), cs[i]? = some n → w.cell? ⟨g, i, none⟩ = some (.int .i64 (n : Int))
theorem allN_take {cs : List Nat} {f : Nat → Bool} {j r : Nat} (h : cs[j]? = some r) : (cs.take (j + 1)).all f = ((cs.take j).all f && f r) := by
  rw [List.take_add_one, h]
  simp
theorem allN_short {cs : List Nat} {f : Nat → Bool} {j : Nat} (h : (cs.take j).all f = false) : cs.all f = false := by
  rw [Bool.eq_false_iff] at h ⊢
  intro h2
  apply h
  rw [List.all_eq_true] at h2 ⊢
  exact fun x hx => h2 x (List.mem_of_mem_take hx)
theorem find_take {cs : List Nat} {f : Nat → Bool} {j r : Nat} (h : cs[j]? = some r) (h1 : (cs.take j).find? f = none) (h2 : f r = false) : (cs.take (j + 1)).find? f = none := by
  rw [List.take_add_one, h, List.find?_append, h1]
  simp [h2]
theorem find_here {cs : List Nat} {f : Nat → Bool} {j r : Nat} (h : cs[j]? = some r) (h1 : (cs.take j).find? f = none) (h2 : f r = true) : cs.find? f = some r := by
  have e : cs = cs.take j ++ cs.drop j := (List.take_append_drop j cs).symm
  rw [e, List.find?_append, h1]
  have hj := (List.getElem?_eq_some_iff.1 h).1
  have : cs.drop j = r :: cs.drop (j + 1) := by
    rw [List.drop_eq_getElem_cons hj]
    congr 1
    rw [List.getElem?_eq_getElem hj] at h
    injection h
  rw [this]
  simp [h2]

set_option maxHeartbeats 3200000 in
theorem next_any (g off cap gc cc : Nat) (l : Pts) (cs : List Nat) (a : Nat) (w : World) (hp : PtsAt w g off l) (hg : g < w.heap.size) (hc : ∀ x ∈ l, CdP x) (ha : a < l.length) (hn : NumsAt w gc cs) (hcs : ∀ n ∈ cs, n < l.length) (hcl : cs.length ≤ 1000000) :
    Calls Try.prog 53 #[.slice (some ⟨g, off, none⟩) l.length cap, .slice (some ⟨gc, 0, none⟩) cs.length cc, .int .i64 (a : Int)] w fun e w' => e = .returned (.int .i64 (nextN l cs a : Int)) ∧ Hid (New w w') := by
  have HP : Hid (PtsAt w g off l ∧ g < w.heap.size ∧ (∀ x ∈ l, CdP x) ∧ NumsAt w gc cs ∧ ∀ n ∈ cs, n < l.length) := ⟨hp, hg, hc, hn, hcs⟩
  clear hp hg hc hn hcs
  have HF : Hid (∀ V, New w V → ∀ n, n < l.length → V.cell? ⟨g, off + n * 2, none⟩ = some (.int .i64 (pN l n).1) ∧ V.cell? ⟨g, off + n * 2 + 1, none⟩ = some (.int .i64 (pN l n).2)) := fun V hV n hn => by
    have := HP.out.1.kept HP.out.2.1 hV n hn
    rw [show pN l n = l[n] by simp [pN, hn]]
    exact this
  have HD : Hid (∀ n, n < l.length → CdP (pN l n)) := fun n hn => by rw [show pN l n = l[n] by simp [pN, hn]]; exact HP.out.2.2.1 _ (List.getElem_mem hn)
  have b0 : (0 : Int) ≤ (a : Int) := by omega
  have b1 : (a : Int) < (l.length : Int) := by omega
  go_enter Try.func53, Try.ntmps53
  go_wp2_with fail
  go_loopw [7] (fun v wr => ∃ k : Nat, v = .int .i64 (k : Int) ∧ k ≤ cs.length ∧ Hid (New w wr ∧ (cs.take k).find? (nextB l cs a) = none)) (fun v _ => cs.length - (intOf v).toNat)
  case atStart => exact ⟨0, rfl, Nat.zero_le _, New.refl _, rfl⟩
  case round =>
    obtain ⟨k, rfl, hk, H⟩ := hrel
    rcases Nat.lt_or_ge k cs.length with hk' | hk'
    · obtain ⟨n, hne⟩ : ∃ n, cs[k]? = some n := ⟨_, List.getElem?_eq_getElem hk'⟩
      have HK : Hid (cs[k]? = some n) := hne
      have hnl : n < l.length := HP.out.2.2.2.2 n (List.mem_of_getElem? hne)
      have x0 := H.out.1.kept' (HP.out.2.2.2.1 k n hne)
      clear hne
      have c0 : (0 : Int) ≤ (k : Int) := by omega
      have c1 : (k : Int) < (cs.length : Int) := by omega
      have hw1 : IntKind.i64.wrap ((k : Int) + 1) = (k : Int) + 1 := by rw [IntKind.wrap_i64]; omega
      obtain ⟨b, hb⟩ : ∃ b, b = decide (n ≠ a) := ⟨_, rfl⟩
      have hb' : ((n : Int) != (a : Int)) = b := by
        rw [hb]
        by_cases h : n = a
        · simp [h]
        · have h2 : (n : Int) ≠ (a : Int) := by omega
          rw [decide_eq_true h]
          exact bne_iff_ne.2 h2
      have HB : Hid (b = decide (n ≠ a)) := hb
      clear hb
      go_wp2_with fail
      have HW : Hid (New wr wr) := New.refl _
      clear x0
      go_loopw [9, 10] (fun u v w4 => ∃ (b' : Bool) (j : Nat), u = .bool b' ∧ v = .int .i64 (j : Int) ∧ j ≤ cs.length ∧ Hid (New wr w4 ∧ b' = (b && (cs.take j).all (leftJ l a n)))) (fun _ v _ => cs.length - (intOf v).toNat)
      case atStart => exact ⟨b, 0, rfl, rfl, Nat.zero_le _, HW.out, by simp⟩
      case round =>
        obtain ⟨b', j, rfl, rfl, hj, HJ⟩ := hrel
        rcases Nat.lt_or_ge j cs.length with hj' | hj'
        · have d1 : (j : Int) < (cs.length : Int) := by omega
          cases b' with
          | false =>
            have HA : Hid ((cs.take (k + 1)).find? (nextB l cs a) = none) := find_take HK.out H.out.2 (by
              unfold nextB
              rcases Bool.eq_false_or_eq_true (decide (n ≠ a)) with h | h
              · rw [h] at HB
                have h2 := HJ.out.2
                rw [HB.out, Bool.true_and] at h2
                rw [h, allN_short h2.symm]
                rfl
              · rw [h]
                rfl)
            go_wp2_with fail
            go_roundw
            case rel => exact ⟨k + 1, by go_num, hk', H.out.1.trans' HJ.out.1, HA.out⟩
            case measure => simp [intOf]; omega
          | true =>
            obtain ⟨m, hme⟩ : ∃ m, cs[j]? = some m := ⟨_, List.getElem?_eq_getElem hj'⟩
            have HM : Hid (cs[j]? = some m) := hme
            have hml : m < l.length := HP.out.2.2.2.2 m (List.mem_of_getElem? hme)
            clear hme
            have d0 : (0 : Int) ≤ (j : Int) := by omega
            have m0 : (0 : Int) ≤ (m : Int) := by omega
            have m1 : (m : Int) < (l.length : Int) := by omega
            have n0 : (0 : Int) ≤ (n : Int) := by omega
            have n1 : (n : Int) < (l.length : Int) := by omega
            have hw2 : IntKind.i64.wrap ((j : Int) + 1) = (j : Int) + 1 := by rw [IntKind.wrap_i64]; omega
            have HT : Hid ((b && (cs.take (j + 1)).all (leftJ l a n)) = leftJ l a n m) := by
              have h2 := HJ.out.2
              rw [Hid, allN_take HM.out, ← Bool.and_assoc, ← h2]
              rfl
            have HX : Hid (∀ V, New wr V → V.cell? ⟨g, off + a * 2, none⟩ = some (.int .i64 (pN l a).1) ∧ V.cell? ⟨g, off + a * 2 + 1, none⟩ = some (.int .i64 (pN l a).2) ∧ V.cell? ⟨g, off + n * 2, none⟩ = some (.int .i64 (pN l n).1) ∧ V.cell? ⟨g, off + n * 2 + 1, none⟩ = some (.int .i64 (pN l n).2) ∧ V.cell? ⟨g, off + m * 2, none⟩ = some (.int .i64 (pN l m).1) ∧ V.cell? ⟨g, off + m * 2 + 1, none⟩ = some (.int .i64 (pN l m).2) ∧ V.cell? ⟨gc, j, none⟩ = some (.int .i64 (m : Int))) := fun V hV => by
              have hN := (H.out.1.trans' HJ.out.1).trans' hV
              have f1 := HF.out V hN a ha
              have f2 := HF.out V hN n hnl
              have f3 := HF.out V hN m hml
              exact ⟨f1.1, f1.2, f2.1, f2.2, f3.1, f3.2, hN.kept' (HP.out.2.2.2.1 j m HM.out)⟩
            have HY : Hid (New wr wr.drew) := (New.refl _).dr
            have HCd : Hid (CdP (pN l a) ∧ CdP (pN l n) ∧ CdP (pN l m)) := ⟨HD.out a ha, HD.out n hnl, HD.out m hml⟩
            go_wp2_with fail
            go_region_held3 (fun V => V.cell? ⟨g, off + a * 2, none⟩ = some (.int .i64 (pN l a).1) ∧ V.cell? ⟨g, off + a * 2 + 1, none⟩ = some (.int .i64 (pN l a).2) ∧ V.cell? ⟨g, off + n * 2, none⟩ = some (.int .i64 (pN l n).1) ∧ V.cell? ⟨g, off + n * 2 + 1, none⟩ = some (.int .i64 (pN l n).2) ∧ V.cell? ⟨g, off + m * 2, none⟩ = some (.int .i64 (pN l m).1) ∧ V.cell? ⟨g, off + m * 2 + 1, none⟩ = some (.int .i64 (pN l m).2) ∧ V.cell? ⟨gc, j, none⟩ = some (.int .i64 (m : Int)))
              (first | exact HX.out _ HY.out)
              (first | (go_at_call 13; refine (refSide_any (pN l a).1 (pN l a).2 (pN l n).1 (pN l n).2 (pN l m).1 (pN l m).2 _ HCd.out.1.1 HCd.out.1.2 HCd.out.2.1.1 HCd.out.2.1.2 HCd.out.2.2.1 HCd.out.2.2.2).mono ?_; rintro e w5 ⟨rfl, H5⟩; replace HY : Hid (New wr w5) := HY.out.trans' H5.out; clear H5))
            have HO : Hid (decide (0 ≤ sgn (det (pN l a).1 (pN l a).2 (pN l n).1 (pN l n).2 (pN l m).1 (pN l m).2)) = leftJ l a n m) := by
              rw [Hid, leftJ]
              have : (0 ≤ sgn (det (pN l a).1 (pN l a).2 (pN l n).1 (pN l n).2 (pN l m).1 (pN l m).2)) ↔ 0 ≤ D (pN l a) (pN l n) (pN l m) := by
                unfold D
                rcases sgn_cases (det (pN l a).1 (pN l a).2 (pN l n).1 (pN l n).2 (pN l m).1 (pN l m).2) with h | h | h <;> omega
              exact decide_eq_decide.2 this
            go_wp2_with fail
            go_roundw
            case rel => exact ⟨leftJ l a n m, j + 1, by rw [← HO.out], by go_num, hj', HJ.out.1.trans' HY.out, HT.out.symm⟩
            case measure => simp [intOf]; omega
        · have hje : j = cs.length := by omega
          subst hje
          cases b' with
          | false =>
            have HA : Hid ((cs.take (k + 1)).find? (nextB l cs a) = none) := find_take HK.out H.out.2 (by
              unfold nextB
              rcases Bool.eq_false_or_eq_true (decide (n ≠ a)) with h | h
              · rw [h] at HB
                have h2 := HJ.out.2
                rw [HB.out, Bool.true_and] at h2
                rw [h, allN_short h2.symm]
                rfl
              · rw [h]
                rfl)
            go_wp2_with fail
            go_roundw
            case rel => exact ⟨k + 1, by go_num, hk', H.out.1.trans' HJ.out.1, HA.out⟩
            case measure => simp [intOf]; omega
          | true =>
            have HA : Hid (nextN l cs a = n) := by
              have h2 := HJ.out.2
              rw [List.take_length] at h2
              have h3 := h2.symm
              rw [Bool.and_eq_true] at h3
              rw [Hid, nextN, find_here HK.out H.out.2 (by unfold nextB; rw [← HB.out, h3.1, h3.2]; rfl)]
              rfl
            go_wp2_with fail
            go_ret
            exact ⟨by rw [HA.out]; rfl, H.out.1.trans' HJ.out.1⟩
    · have e : k = cs.length := by omega
      subst e
      have HE : Hid (nextN l cs a = a) := by
        have := H.out.2
        rw [List.take_length] at this
        rw [Hid, nextN, this]
        rfl
      go_wp2_with fail
      go_ret
      exact ⟨by rw [HE.out]; rfl, H.out.1⟩
end Go.Proofs.Ytgeoffpcmkofkaa
