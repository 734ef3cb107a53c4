/- The walks of package plumbref: 'digit', 'trim', 'greater'. -/
import Derived.Test.YtgeoffpcmkofkaaWj
import Derived.Test.YtgeoffpcmkofkaaDig
namespace Go.Proofs.Ytgeoffpcmkofkaa
open Go.RowKit Fl Dg
set_option maxRecDepth 100000

/-- A list of digits in memory. -/
structure Dl (w : World) (v : Value) (ds : List Int) : Prop where
  own : w.ownsRow 0 3 1 v ds.length (ds.map (Value.int .i64))
  ok : Dok ds
  few : ds.length ≤ 1000

theorem Dl.kept {w w' : World} {v : Value} {ds : List Int} (h : Dl w v ds) (hn : New w w') : Dl w' v ds :=
  ⟨h.own.kept hn (by cases hv : v.ownBlock <;> simp), h.ok, h.few⟩

/-- What 'trim' leaves. -/
def Trimmed (w : World) (v : Value) (ds : List Int) (e : Ending) (w' : World) : Prop := ∃ (v' : Value) (ds' : List Int), e = .returned v' ∧ w = w' ∧ Hid (Dl w v' ds' ∧ dv ds' = dv ds ∧ Tr ds' ∧ ds'.length ≤ ds.length ∧ v'.ownBlock = v.ownBlock)
theorem Trimmed.mk {w : World} {ds ds' : List Int} {v v' : Value} (h1 : Dl w v' ds') (h2 : dv ds' = dv ds) (h3 : Tr ds') (h4 : ds'.length ≤ ds.length) (h5 : v'.ownBlock = v.ownBlock) : Trimmed w v ds (.returned v') w := ⟨v', ds', rfl, rfl, h1, h2, h3, h4, h5⟩

/-- Its two shapes. -/
theorem Dl.shape {w : World} {v : Value} {ds : List Int} (h : Dl w v ds) : (v = .slice none 0 0 ∧ ds = []) ∨ ∃ g cap, v = .slice (some ⟨g, 0, none⟩) ds.length cap ∧ ds.length ≤ cap ∧ cap ≤ maxLen ∧ (∀ i (hi : i < ds.length), w.cell? ⟨g, i, none⟩ = some (.int .i64 ds[i])) := by
  rcases h.own.2 with ⟨h1, h2⟩ | ⟨g, cap, cur, h1, _, h2, h3, h4, h5, h6⟩
  · exact Or.inl ⟨h1, List.eq_nil_of_length_eq_zero h2⟩
  · refine Or.inr ⟨g, cap, h1, h3, h4, fun i hi => ?_⟩
    rw [cell_of_row w g i cur 3 (0, 0) h2]
    have : (cur.toList.take (ds.length * 1))[i]? = some (.int .i64 ds[i]) := by rw [h6]; simp [hi]
    rw [List.getElem?_take_of_lt (by omega)] at this
    simpa using this

set_option maxHeartbeats 400000 in
theorem digit_any (v : Value) (ds : List Int) (i : Nat) (w : World) (h : Dl w v ds) (_hi : i ≤ 1000) :
    Calls Try.prog 58 #[v, .int .i64 i] w fun e w' => e = .returned (.int .i64 (ds.getD i 0)) ∧ w = w' := by
  have hfew := h.few
  rcases h.shape with ⟨rfl, rfl⟩ | ⟨g, cap, rfl, hc, hm, hcell⟩
  · go_enter Try.func58, Try.ntmps58
    go_wp2
    go_ret
    exact ⟨by simp, rfl⟩
  · unfold maxLen at hm
    by_cases hlt : i < ds.length
    · have hc1 := hcell i hlt
      have HD : Hid (ds.getD i 0 = ds[i]) := by rw [Hid, List.getD_eq_getElem?_getD, List.getElem?_eq_getElem hlt]; rfl
      clear hcell
      go_enter Try.func58, Try.ntmps58
      go_wp2
      go_ret
      exact ⟨by rw [HD.out]; rfl, rfl⟩
    · have HD : Hid (ds.getD i 0 = 0) := by rw [Hid, List.getD_eq_getElem?_getD, List.getElem?_eq_none (by omega)]; rfl
      clear hcell
      go_enter Try.func58, Try.ntmps58
      go_wp2
      go_ret
      exact ⟨by rw [HD.out]; rfl, rfl⟩

theorem Dl.take {w : World} {g cap : Nat} {ds : List Int} (h : Dl w (.slice (some ⟨g, 0, none⟩) ds.length cap) ds) {n : Nat} (hn : n ≤ ds.length) : Dl w (.slice (some ⟨g, 0, none⟩) n cap) (ds.take n) := by
  have hl : (ds.take n).length = n := by rw [List.length_take, Nat.min_eq_left hn]
  refine ⟨?_, h.ok.take n, by have := h.few; omega⟩
  rw [hl]
  refine ⟨by rw [List.length_map, hl, Nat.mul_one], ?_⟩
  rcases h.own.2 with ⟨h1, h2⟩ | ⟨g', cap', cur, h1, h0, h2, h3, h4, h5, h6⟩
  · cases h1
  · cases h1
    refine Or.inr ⟨g, cap, cur, rfl, h0, h2, by omega, h4, h5, ?_⟩
    have := congrArg (List.take n) h6
    rw [List.take_take, Nat.mul_one, Nat.min_eq_left hn] at this
    rw [Nat.mul_one, this, List.map_take]

theorem Dl.nil (w : World) : Dl w (.slice none 0 0) [] := ⟨World.ownsRow_nil w 0 3 1, Dok.nil, by simp⟩

set_option maxHeartbeats 800000 in
theorem trim_any (v : Value) (ds : List Int) (w : World) (h : Dl w v ds) :
    Calls Try.prog 59 #[v] w fun e w' => Trimmed w v ds e w' := by
  have hfew := h.few
  have HH : Hid (Dl w v ds) := h
  rcases h.shape with ⟨rfl, rfl⟩ | ⟨g, cap, rfl, hc, hm, hcell⟩
  · clear h
    go_enter Try.func59, Try.ntmps59
    go_wp2
    refine wp_loop_rounds 1 ?_
    rw [rounds_succ]
    go_wp2
    go_ret
    exact Trimmed.mk (Dl.nil w) rfl (fun h => absurd rfl h) (by simp) rfl
  · unfold maxLen at hm
    clear h
    go_enter Try.func59, Try.ntmps59
    go_wp2_with fail
    go_loop [3] (fun i => ∃ n : Nat, i = .int .i64 n ∧ n ≤ ds.length ∧ Hid (dv (ds.take n) = dv ds))
      (fun i => (intOf i).toNat)
    case atStart => exact ⟨ds.length, rfl, Nat.le_refl _, by rw [Hid, List.take_length]⟩
    case round =>
      obtain ⟨n, rfl, hn, H⟩ := hrel
      by_cases h0 : n = 0
      · subst h0
        clear hcell
        go_wp2_with fail
        go_ret
        exact Trimmed.mk (HH.out.take (Nat.zero_le _)) H.out (trim_tr (Nat.zero_le _) (Or.inl rfl)) (by simp) rfl
      · obtain ⟨m, rfl⟩ : ∃ m, n = m + 1 := ⟨n - 1, by omega⟩
        have hc1 := hcell m (by omega)
        have HG : Hid (ds.getD m 0 = ds[m]'(by omega)) := by rw [Hid, List.getD_eq_getElem?_getD, List.getElem?_eq_getElem (by omega)]; rfl
        clear hcell h0
        by_cases hz : ds[m]'(by omega) = 0
        · rw [hz] at hc1
          have HZ : Hid (ds[m]'(by omega) = 0) := hz
          clear hz
          go_wp2_with fail
          go_round
          case rel => exact ⟨m, by go_num, by omega, trim_step hn (HG.out.trans HZ.out) H.out⟩
          case measure => simp [intOf]
        · have hzb : (ds[m]'(by omega) == 0) = false := by simpa using hz
          have HZ : Hid (ds[m]'(by omega) ≠ 0) := hz
          clear hz
          go_wp2_with fail
          go_ret
          exact Trimmed.mk (HH.out.take hn) H.out (trim_tr hn (Or.inr (by rw [Nat.add_sub_cancel, HG.out]; exact HZ.out))) (by simp; omega) rfl

end Go.Proofs.Ytgeoffpcmkofkaa
