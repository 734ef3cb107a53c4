/- The walk of 'settle' of package mesh. -/
import Derived.Test.YtgeoffpcmkofkaaGreatRj
import Derived.Deep.LoopGhost
namespace Go.Proofs.YtgeoffpcmkofkaaGreat
open Go.RowKit Go.Maps Fl
set_option maxRecDepth 100000
attribute [local go_sem ↓] Go.wp_at_zero Go.wp_at_succ

theorem grown_own {w w1 w2 : World} {b : Nat} {row : Option Nat} (h : w.grownBy w1 (some b)) (h2 : w1.grownBy w2 row) (hr : ∀ k, row = some k → w.heap.size ≤ k) : w.grownBy w2 (some b) :=
  ⟨h2.os.trans h.os, h2.tape.trans h.tape, h2.output.trans h.output, Nat.le_trans h.size h2.size, fun k hk hne => (h2.block k (Nat.lt_of_lt_of_le hk h.size) (fun e => by have := hr k e.symm; omega)).trans (h.block k hk hne)⟩

/-- Where settle stands: i steps are done, k at most are to come. -/
structure SR (s : Pts) (m0 : Ms) (w wr : World) (b : Nat) (v : Value) (i : Nat) (st : St) (k : Nat) : Prop where
  at_ : st = steps i (m0, keysL s m0)
  inv : Inv s st
  ins : ∀ e ∈ st.2, e.1 ∈ s ∧ e.2 ∈ s
  mu_ : mu (pairs s) s st = k
  bound : i + k ≤ 1000000
  gr : w.grownBy wr (some b)
  map : MapE wr b (1000000000 + 6 * i) st.1
  own : OwnE wr w.heap.size v st.2

theorem own_take {w : World} {base g cap : Nat} {o : List Ed} {e : Ed} (h : OwnE w base (.slice (some ⟨g, 0, none⟩) (o ++ [e]).length cap) (o ++ [e])) : OwnE w base (.slice (some ⟨g, 0, none⟩) o.length cap) o := by
  have := own_shrink h (c := o.length) (by simp)
  rw [List.flatMap_append, List.take_append_of_le_length (by rw [flat_length lenE]; omega), List.take_of_length_le (by rw [flat_length lenE]; omega)] at this
  exact this

section
variable {s : Pts} {m0 m : Ms} {w wr wx : World} {b : Nat} {v v' : Value} {i k : Nat} {o : List Ed} {a c l r : Pt}
theorem steps_one (i : Nat) (st : St) : steps (i + 1) st = step (steps i st) := by
  rw [steps_add]; rfl
theorem SR.keep (h : SR s m0 w wr b v i (m, o ++ [(a, c)]) k) (hs : s.Nodup) (hw : wrong m (a, c) = false) (hg : wr.grownBy wx none) (ho : OwnE wx w.heap.size v' o) : SR s m0 w wx b v' (i + 1) (m, o) (k - 1) ∧ k - 1 < k := by
  have e := h.at_
  have e1 : step (m, o ++ [(a, c)]) = (m, o) := step_keep hw
  have hmu := step_mu (nodup_pairs hs) (fun u hu v hv => mem_pairs.2 ⟨hu, hv⟩) h.inv (by simp)
  rw [e1] at hmu
  have hm := h.mu_
  have hmu2 : mu (pairs s) s (m, o) + 1 = k := by
    rw [← hm]; unfold mu; simp; omega
  refine ⟨⟨?_, inv_keep h.inv hw, fun e he => h.ins e (by simp [he]), by omega, by have := h.bound; omega, grown_own h.gr hg (fun k e => by cases e), (h.map.new hg).mono (by omega), ho⟩, by omega⟩
  rw [steps_one, ← e, e1]
theorem SR.flip (h : SR s m0 w wr b v i (m, o ++ [(a, c)]) k) (hs : s.Nodup) (h1 : m (a, c) = some l) (h2 : m (c, a) = some r) (hc : 0 < C a c l r) (hg : w.grownBy wx (some b)) (hm : MapE wx b (1000000000 + 6 * i + 6) (flipM m a c l r)) (ho : OwnE wx w.heap.size v' (o ++ [(a, r), (r, c), (c, l), (l, a)])) :
    ∃ k', SR s m0 w wx b v' (i + 1) (flipM m a c l r, o ++ [(a, r), (r, c), (c, l), (l, a)]) k' ∧ k' < k := by
  have e := h.at_
  have e1 := step_flip (o := o) h1 h2 hc
  have hmu := step_mu (nodup_pairs hs) (fun u hu v hv => mem_pairs.2 ⟨hu, hv⟩) h.inv (by simp)
  rw [e1, h.mu_] at hmu
  have ml := h.inv.ok.mem _ _ _ h1
  have mr := h.inv.ok.mem _ _ _ h2
  refine ⟨_, ⟨?_, inv_flip h.inv h1 h2 hc, fun e he => ?_, rfl, by have := h.bound; omega, hg, hm.mono (by omega), ho⟩, hmu⟩
  · rw [steps_one, ← e, e1]
  · rcases List.mem_append.1 he with he | he
    · exact h.ins e (by simp [he])
    · simp at he
      rcases he with rfl | rfl | rfl | rfl
      · exact ⟨ml.1, mr.2.2⟩
      · exact ⟨mr.2.2, mr.1⟩
      · exact ⟨mr.1, ml.2.2⟩
      · exact ⟨ml.2.2, ml.1⟩
theorem SR.fin (h : SR s m0 w wr b v i (m, []) k) (hs : s.Nodup) (hok : Ok s m0) : MapE wr b 1010000000 (settledM s m0) ∧ w.grownBy wr (some b) := by
  have hb := h.bound
  have e : settledM s m0 = m := by
    have h1 := steps_stop (nodup_pairs hs) (fun u hu v hv => mem_pairs.2 ⟨hu, hv⟩) (inv_start hok)
    have h2 : (steps i (m0, keysL s m0)).2 = [] := by rw [← h.at_]
    have := steps_end h1 h2
    unfold settledM
    rw [this, ← h.at_]
  rw [e]
  exact ⟨h.map.mono (by omega), h.gr⟩
end

theorem Ok.vals {s : Pts} {m : Ms} (h : Ok s m) (hc : ∀ x ∈ s, CdP x) : Vals m := fun e c he => hc c (h.mem e.1 e.2 c he).2.2

set_option maxHeartbeats 3200000 in
theorem settle_any (b : Nat) (s : Pts) (m : Ms) (w : World) (h : MapE w b 1000000000 m) (hok : Ok s m) (hr : Rising s) (hc : ∀ x ∈ s, CdP x) (h40 : s.length ≤ 40) :
    Calls Tryz.prog 28 #[.map (some b)] w fun e w' => e = .returned (.tuple #[]) ∧ Hid (MapE w' b 1010000000 (settledM s m) ∧ w.grownBy w' (some b)) := by
  obtain ⟨i0, hi0, hz0, hz1, hz2⟩ := info_parts Tryz.info65
  have hb := h.lt
  have H : Hid (MapE w b 1000000000 m ∧ Ok s m ∧ Rising s ∧ (∀ x ∈ s, CdP x)) := ⟨h, hok, hr, hc⟩
  have HPS : Hid (∀ e, (m e).isSome = true → e ∈ pairs s) := fun e he => by
    obtain ⟨c, hc⟩ := isSome_get he
    have := hok.mem e.1 e.2 c hc
    exact mem_pairs.2 ⟨this.1, this.2.1⟩
  have HPL : Hid ((pairs s).length ≤ 1600) := by
    rw [Hid, pairs_length]
    exact Nat.le_trans (Nat.mul_le_mul h40 h40) (by omega)
  have HMU : Hid (mu (pairs s) s (m, keysL s m) ≤ 1000000) := by
    have h1 := tot_le (pairs s) s m
    have h2 : (pairs s).length * s.length ≤ 1600 * 40 := Nat.mul_le_mul HPL.out h40
    have h3 : (keysL s m).length ≤ (pairs s).length := List.length_filter_le _ _
    have h4 := HPL.out
    rw [Hid]
    unfold mu
    simp only
    omega
  clear h hok hr hc h40
  go_enter Tryz.func28, Tryz.ntmps28
  go_wp2_with fail
  refine (keys_any b w).mono ?_
  rintro e w1 ⟨rfl, rfl⟩
  go_wp2_with fail
  refine (sortedFunc_any w.heap.size b 1000000000 m (pairs s) HPS.out (by have := HPL.out; omega) _ (by simp) (by go_simp) (H.out.1.new (New.alloc _ _))).mono ?_
  rintro e w2 ⟨v2, L, rfl, H2⟩
  have HS : Hid (SR s m w w2 b v2 0 (m, keysL s m) (mu (pairs s) s (m, keysL s m))) := by
    have hL := H2.out.1.keysL H.out.2.2.1 H.out.2.2.2 HPS.out
    have ho := H2.out.2.2
    rw [hL] at ho
    refine ⟨rfl, inv_start H.out.2.1, fun e he => ?_, rfl, by have := HMU.out; omega, ((New.alloc _ _).trans' H2.out.2.1).but (some b), (H.out.1.new (New.alloc _ _)).new H2.out.2.1, ⟨ho.1, ho.2.imp id fun ⟨g, cap, cur, a1, a2, a3⟩ => ⟨g, cap, cur, a1, by simp at a2; omega, a3⟩⟩⟩
    exact mem_pairs.1 ((List.mem_filter.1 he).1)
  clear H2 HPS HPL HMU
  go_wp2_with fail
  go_loopg [2] (mu (pairs s) s (m, keysL s m)) (fun k v wr => ∃ (i : Nat) (st : St), Hid (SR s m w wr b v i st k))
  case atStart => exact ⟨0, _, HS⟩
  case round =>
    obtain ⟨i, ⟨m1, o1⟩, HR⟩ := hrel
    rcases last_cases o1 with rfl | ⟨o, ⟨⟨ex, ey⟩, fx, fy⟩, rfl⟩
    · have HF : Hid (MapE wr b 1010000000 (settledM s m) ∧ w.grownBy wr (some b)) := HR.out.fin H.out.2.2.1.nodup H.out.2.1
      rcases HR.out.own.form with ⟨e1, _⟩ | ⟨g, cap, e1, _, _, _, _⟩
      · subst e1
        go_wp2_with fail
        go_end0
        exact ⟨rfl, HF.out⟩
      · subst e1
        go_wp2_with fail
        go_end0
        exact ⟨rfl, HF.out⟩
    · rcases HR.out.own.form with ⟨_, e1⟩ | ⟨g, cap, e1, hbg, hgl, hlc, hcm⟩
      · simp at e1
      · subst e1
        have HG : Hid (w.heap.size ≤ g ∧ g < wr.heap.size) := ⟨hbg, hgl⟩
        obtain ⟨x0, x1, x2, x3⟩ := HR.out.own.cell (show o.length < (o ++ [((ex, ey), (fx, fy))]).length by simp)
        have eg : (o ++ [((ex, ey), (fx, fy))])[o.length]'(by simp) = ((ex, ey), (fx, fy)) := by simp
        rw [eg] at x0 x1 x2 x3
        have HOT : Hid (OwnE wr w.heap.size (.slice (some ⟨g, 0, none⟩) o.length cap) o) := own_take HR.out.own
        have hlen : (o ++ [((ex, ey), (fx, fy))]).length = o.length + 1 := by simp
        have hol : o.length ≤ 1000000 := by
          have h1 := HR.out.mu_
          have h2 := HR.out.bound
          unfold mu at h1
          rw [hlen] at h1
          omega
        rw [hlen] at hlc
        have HCE : Hid (CdE ((ex, ey), (fx, fy)) ∧ Vals m1) := by
          have := HR.out.ins ((ex, ey), (fx, fy)) (by simp)
          exact ⟨⟨H.out.2.2.2 _ this.1, H.out.2.2.2 _ this.2⟩, HR.out.inv.ok.vals H.out.2.2.2⟩
        have hw1 : IntKind.i64.wrap ((o.length : Int) + 1 - 1) = (o.length : Int) := by rw [IntKind.wrap_i64]; omega
        have i1 : (0 : Int) ≤ (o.length : Int) := by omega
        have i2 : (o.length : Int) < (o.length : Int) + 1 := by omega
        have i3 : (o.length : Int) ≤ (cap : Int) := by omega
        have i4 : o.length ≤ cap := by omega
        have i5 : (0 : Int) < (o.length : Int) + 1 := by omega
        have i6 : ¬(((o.length : Int) + 1) = 0) := by omega
        clear hbg hgl hcm eg hlc
        cases hw : wrong m1 ((ex, ey), (fx, fy)) with
        | false =>
          go_wp2_with fail
          refine (isWrong_any b (1000000000 + 6 * i) m1 ((ex, ey), (fx, fy)) _ (HR.out.map.new (New.alloc _ _)) HCE.out.1 HCE.out.2).mono ?_
          rintro e w3 ⟨rfl, H3⟩
          have HK : Hid (SR s m w w3 b (.slice (some ⟨g, 0, none⟩) o.length cap) (i + 1) (m1, o) (gk - 1) ∧ gk - 1 < gk) := HR.out.keep H.out.2.2.1.nodup hw ((New.alloc _ _).trans' H3.out) ((HOT.out.new (New.alloc _ _)).new H3.out)
          clear H3 x0 x1 x2 x3
          rw [hw]
          go_wp2_with fail
          go_roundg (gk - 1)
          case measure => exact HK.out.2
          case rel => exact ⟨_, _, HK.out.1⟩
        | true =>
          obtain ⟨l, r, hl, hr, hcc⟩ := wrong_inv hw
          have HW : Hid (m1 ((ex, ey), (fx, fy)) = some l ∧ m1 ((fx, fy), (ex, ey)) = some r ∧ 0 < C (ex, ey) (fx, fy) l r) := ⟨hl, hr, hcc⟩
          clear hl hr hcc
          go_wp2_with fail
          refine (isWrong_any b (1000000000 + 6 * i) m1 ((ex, ey), (fx, fy)) _ (HR.out.map.new (New.alloc _ _)) HCE.out.1 HCE.out.2).mono ?_
          rintro e w3 ⟨rfl, H3⟩
          have N3 : Hid (New wr w3) := (New.alloc _ _).trans' H3.out
          obtain ⟨y0, y1, y2, y3⟩ := (BoxE.mk (by go_simp) (by go_simp) (by go_simp) (by go_simp) : BoxE (wr.alloc (.cells #[.int .i64 ex, .int .i64 ey, .int .i64 fx, .int .i64 fy] 65)) wr.heap.size ((ex, ey), (fx, fy))).new H3.out
          clear H3 x0 x1 x2 x3
          rw [hw]
          go_wp2_with (first
            | (go_at_call 48; refine (flip_any b (1000000000 + 6 * i) m1 (ex, ey) (fx, fy) l r _ (HR.out.map.new N3.out) (by unfold maxLen; have := HR.out.bound; omega) HW.out.1 HW.out.2.1 HCE.out.2).mono ?_
               rintro e w4 ⟨g4, rfl, H4⟩
               have HO4 : Hid (OwnE w4 w.heap.size (.slice (some ⟨g, 0, none⟩) o.length cap) o) := World.ownsRow.kept (HOT.out.new N3.out) H4.out.2.1 (.inr (by have := HG.out.1; simp [Value.ownBlock]; omega))
               have HG4 : Hid (w.grownBy w4 (some b)) := (grown_own HR.out.gr N3.out (fun k e => by cases e)).trans H4.out.2.1
               clear y0 y1 y2 y3)
            | (at_builtin; refine wpList_append_own _ rfl _ _ 62 rfl w.heap.size 65 i0 (.agg #[.int .i64 0, .int .i64 0, .int .i64 0, .int .i64 0]) 4 32 Tryz.underlying62 hi0 hz0 hz1 hz2 rfl (by decide) _ _ _ rfl HO4.out ⟨g4, 0, none⟩ 4 4 ([((ex, ey), r), (r, (fx, fy)), ((fx, fy), l), (l, (ex, ey))].flatMap encE) rfl rfl (World.news_of_block (cs := ([((ex, ey), r), (r, (fx, fy)), ((fx, fy), l), (l, (ex, ey))].flatMap encE).toArray) H4.out.2.2.2) (by simp [encE, Value.oneCell']) (by unfold maxLen; omega) (by omega) (HG4.out.size) ?_
               intro v' w5 o5 g5 _
               have H5 : Hid (w5.ownsRow w.heap.size 65 4 v' (o.length + 4) (o.flatMap encE ++ [((ex, ey), r), (r, (fx, fy)), ((fx, fy), l), (l, (ex, ey))].flatMap encE) ∧ w4.grownBy w5 (some g)) := ⟨o5, g5⟩
               clear o5 g5)
            | go_in)
          have HA : Hid (∃ k', SR s m w w5 b v' (i + 1) (flipM m1 (ex, ey) (fx, fy) l r, o ++ [((ex, ey), r), (r, (fx, fy)), ((fx, fy), l), (l, (ex, ey))]) k' ∧ k' < gk) := by
            have hgg : w.heap.size ≤ g := HG.out.1
            refine HR.out.flip H.out.2.2.1.nodup HW.out.1 HW.out.2.1 HW.out.2.2 (grown_own HG4.out H5.out.2 (fun k e => by cases e; exact hgg)) (H4.out.1.kept H5.out.2 (by simp; omega)) ?_
            unfold OwnE
            rw [List.length_append, List.flatMap_append]
            exact H5.out.1
          obtain ⟨k', hk', hlt⟩ := HA.out
          go_roundg k'
          case measure => exact hlt
          case rel => exact ⟨_, _, hk'⟩

end Go.Proofs.YtgeoffpcmkofkaaGreat
