/- Qe; Qf; Qg; Qh; Qi; Hb; Hc; Hd; He; Hf; Hg; Hh; Hi: texts laid into one. -/
import Derived.Deep.AppendLies
import Derived.Test.YtgeoffpcmkofkaaQat
import Derived.Shelf.SlicesQ.Reverse
import Derived.Test.YtgeoffpcmkofkaaQas
/- The walk of hull's 'leftTurns'. -/
namespace Go.Proofs.Ytgeoffpcmkofkaa
open Go.RowKit Fl Go.Lib
set_option maxRecDepth 100000
attribute [local go_sem ↓] Go.wp_at_zero Go.wp_at_succ

theorem wayOf_succ {l : Pts} {k : Nat} {p : Pt} (h : l[k]? = some p) : wayOf D (l.take (k + 1)) = p :: pops D p (wayOf D (l.take k)) := by
  rw [List.take_add_one, h]
  simp [wayOf, List.foldl_append]
theorem pops_sub (p : Pt) : ∀ (l : Pts), ∀ x ∈ pops D p l, x ∈ l
  | [] => by simp [pops]
  | [a] => by simp [pops]
  | t :: s :: l => by
    intro x hx
    rw [pops] at hx
    split at hx
    · exact List.mem_cons_of_mem _ (pops_sub p (s :: l) x hx)
    · exact hx
theorem wayOf_sub : ∀ (k : Nat) (l : Pts), ∀ x ∈ wayOf D (l.take k), x ∈ l
  | 0, l => by simp [wayOf]
  | k + 1, l => by
    intro x hx
    cases h : l[k]? with
    | none =>
      rw [List.take_add_one, h] at hx
      exact wayOf_sub k l x (by simpa using hx)
    | some p =>
      rw [wayOf_succ h] at hx
      rcases List.mem_cons.1 hx with rfl | hx
      · exact List.mem_of_getElem? h
      · exact wayOf_sub k l x (pops_sub _ _ x hx)
def lenV : Value → Nat
  | .slice _ n _ => n
  | _ => 0
/-- Where the loops stand. -/
structure LT (w wr : World) (v : Value) (t : Pts) (k : Nat) : Prop where
  new : New w wr
  own : OwnP wr w.heap.size v t
  len : t.length ≤ k
  cd : ∀ x ∈ t, CdP x
theorem LT.box {w wr : World} {v : Value} {t : Pts} {k : Nat} (h : LT w wr v t k) (o : Obj) : LT w (wr.alloc o) v t k := ⟨h.new.alloc' _, h.own.new (New.alloc _ _), h.len, h.cd⟩
theorem LT.go {w wr w2 : World} {v : Value} {t : Pts} {k : Nat} (h : LT w wr v t k) (hn : New wr w2) : LT w w2 v t k := ⟨h.new.trans' hn, h.own.new hn, h.len, h.cd⟩
theorem LT.cut {w wr : World} {g cap k : Nat} {t : Pts} {p : Pt} (h : LT w wr (.slice (some ⟨g, 0, none⟩) (t ++ [p]).length cap) (t ++ [p]) k) : LT w wr (.slice (some ⟨g, 0, none⟩) t.length cap) t k := by
  refine ⟨h.new, ?_, by have := h.len; simp at this; omega, fun x hx => h.cd x (by simp [hx])⟩
  have := own_shrink h.own (c := t.length) (by simp)
  unfold OwnP
  rw [List.flatMap_append, List.take_append_of_le_length (by rw [flat_length lenP]; omega), List.take_of_length_le (by rw [flat_length lenP]; omega)] at this
  exact this


theorem sgn_le {x : Int} : sgn x ≤ 0 ↔ x ≤ 0 := by rcases sgn_cases x with h | h | h <;> omega
theorem two_last {s : Pts} (h : 2 ≤ s.length) : ∃ q a b, s = q ++ [a, b] := by
  rcases List.eq_nil_or_concat s with rfl | ⟨r, b, rfl⟩
  · simp at h
  · rcases List.eq_nil_or_concat r with rfl | ⟨q, a, rfl⟩
    · simp at h
    · exact ⟨q, a, b, by simp⟩
theorem last_cells {w wr : World} {g c m k : Nat} {q : Pts} {a b : Pt} (hm : m = q.length) (h : LT w wr (.slice (some ⟨g, 0, none⟩) (m + 2) c) (q ++ [a, b]) k) :
    wr.cell? ⟨g, m * 2, none⟩ = some (.int .i64 a.1) ∧ wr.cell? ⟨g, m * 2 + 1, none⟩ = some (.int .i64 a.2) ∧ wr.cell? ⟨g, (m + 1) * 2, none⟩ = some (.int .i64 b.1) ∧ wr.cell? ⟨g, (m + 1) * 2 + 1, none⟩ = some (.int .i64 b.2) := by
  have e : m + 2 = (q ++ [a, b]).length := by simp [hm]
  have h0 := h.own
  rw [e] at h0
  have h1 := h0.cell (i := m) (by omega)
  have h2 := h0.cell (i := m + 1) (by omega)
  have e1 : (q ++ [a, b])[m]'(by omega) = a := by subst hm; simp
  have e2 : (q ++ [a, b])[m + 1]'(by omega) = b := by subst hm; simp [List.getElem_append_right]
  rw [e1] at h1
  rw [e2] at h2
  exact ⟨h1.1, h1.2, h2.1, h2.2⟩
theorem pops_short (p : Pt) {r : Pts} (h : r.length < 2) : pops D p r = r := by
  match r, h with
  | [], _ => rfl
  | [a], _ => rfl
theorem left_step {w w2 : World} {v : Value} {s l : Pts} {k : Nat} {p : Pt} (hs : LT w w2 v s k) (hk : k < l.length) (hl : l.length ≤ 1000000) (hC : CdP p ∧ l[k]? = some p) (he : s.reverse = pops D p (wayOf D (l.take k))) :
    ∃ vk wk, (Builtin.append_ #[28, 28] 28 #[v, .slice (some ⟨w2.heap.size, 0, none⟩) 1 1]).run Try.prog (w2.alloc (.cells #[.int .i64 p.1, .int .i64 p.2] 23)) = .ok vk wk ∧ Hid (LT w wk vk (s ++ [p]) (k + 1) ∧ (s ++ [p]).reverse = wayOf D (l.take (k + 1))) := by
  obtain ⟨i0, hi0, hz0, hz1, hz2⟩ := info_parts Try.info23
  have h1 := hs.len
  obtain ⟨vk, wk, k1, k2, k3, k4⟩ := run_append_own (P := Try.prog) (w2.alloc (.cells #[.int .i64 p.1, .int .i64 p.2] 23)) w.heap.size 28 28 23 i0 _ 2 16 Try.underlying28 hi0 hz0 hz1 hz2 rfl (by omega) v s.length (s.flatMap encP) (hs.own.new (New.alloc _ _)) ⟨w2.heap.size, 0, none⟩ 1 1 [.int .i64 p.1, .int .i64 p.2] rfl
    (World.news_of_block (cs := #[.int .i64 p.1, .int .i64 p.2]) (t := 23) (fr := (0, 0)) (heap_alloc_new w2 _)) (by simp [Value.oneCell']) (by unfold maxLen; omega) (by omega) (by have := hs.new.size; simp; omega)
  refine ⟨vk, wk, k1, ⟨(hs.new.alloc' _).trans k3 fun g hg => ?_, ?_, by simp; omega, fun x hx => ?_⟩, ?_⟩
  · rcases Nat.lt_or_ge g w.heap.size with h1 | h1
    · exact absurd hg.symm (own_ne hs.own h1)
    · exact h1
  · unfold OwnP
    rw [List.flatMap_append, List.length_append]
    exact k2
  · rcases List.mem_append.1 hx with h | h
    · exact hs.cd x h
    · rw [List.mem_singleton.1 h]; exact hC.1
  · rw [wayOf_succ hC.2, ← he]
    simp

set_option maxHeartbeats 1600000 in
theorem left_any (g cap : Nat) (l : Pts) (w : World) (hp : PtsAt w g 0 l) (hg : g < w.heap.size) (hl : l.length ≤ 1000000) (hc : ∀ x ∈ l, CdP x) :
    Calls Try.prog 87 #[.slice (some ⟨g, 0, none⟩) l.length cap] w fun e w' => ∃ v t, e = .returned v ∧ Hid (t.reverse = wayOf D l ∧ New w w' ∧ OwnP w' w.heap.size v t) := by
  have HP : Hid (PtsAt w g 0 l ∧ g < w.heap.size ∧ ∀ x ∈ l, CdP x) := ⟨hp, hg, hc⟩
  clear hp hg hc
  go_enter Try.func87, Try.ntmps87
  go_wp2_with fail
  go_loopw [3, 8] (fun v i wr => ∃ (k : Nat) (t : Pts), i = .int .i64 (k : Int) ∧ k ≤ l.length ∧ Hid (LT w wr v t k ∧ t.reverse = wayOf D (l.take k))) (fun _ i _ => l.length - (intOf i).toNat)
  case atStart => exact ⟨0, [], rfl, Nat.zero_le _, ⟨New.refl _, World.ownsRow_nil _ _ _ _, Nat.zero_le _, by simp⟩, rfl⟩
  case round =>
    obtain ⟨k, t, rfl, hk, H⟩ := hrel
    rcases Nat.lt_or_ge k l.length with hk' | hk'
    · have hc := HP.out.1.kept HP.out.2.1 H.out.1.new k hk'
      rw [Nat.zero_add] at hc
      obtain ⟨p, hp⟩ : ∃ p, p = l[k] := ⟨_, rfl⟩
      have HC : Hid (CdP p ∧ l[k]? = some p) := ⟨by rw [hp]; exact HP.out.2.2 _ (List.getElem_mem hk'), by rw [hp]; exact List.getElem?_eq_getElem hk'⟩
      rw [← hp] at hc
      obtain ⟨x0, x1⟩ := hc
      clear hp
      have i0 : (0 : Int) ≤ (k : Int) := by omega
      have i1 : (k : Int) < (l.length : Int) := by omega
      have hw1 : IntKind.i64.wrap ((k : Int) + 1) = (k : Int) + 1 := by rw [IntKind.wrap_i64]; omega
      obtain ⟨wo, rfl⟩ : ∃ wo, wo = wr := ⟨_, rfl⟩
      have HB : Hid (New (wo.alloc (.cells #[.int .i64 p.1, .int .i64 p.2] 23)) (wo.alloc (.cells #[.int .i64 p.1, .int .i64 p.2] 23))) := New.refl _
      have HL : Hid (LT w (wo.alloc (.cells #[.int .i64 p.1, .int .i64 p.2] 23)) u3 t k ∧ t.reverse = wayOf D (l.take k)) := ⟨H.out.1.box _, H.out.2⟩
      have HX : Hid (∀ w2, New (wo.alloc (.cells #[.int .i64 p.1, .int .i64 p.2] 23)) w2 → w2.cell? ⟨wo.heap.size, 0, none⟩ = some (.int .i64 p.1) ∧ w2.cell? ⟨wo.heap.size, 1, none⟩ = some (.int .i64 p.2)) := fun w2 h => ⟨h.kept' (by go_simp), h.kept' (by go_simp)⟩
      go_wp2_with fail
      clear x0 x1 H
      go_loopw [3] (fun v w2 => ∃ (s : Pts), Hid (LT w w2 v s k ∧ pops D p s.reverse = pops D p (wayOf D (l.take k)) ∧ New (wo.alloc (.cells #[.int .i64 p.1, .int .i64 p.2] 23)) w2)) (fun v _ => lenV v)
      case atStart => exact ⟨t, HL.out.1, by rw [HL.out.2], HB.out⟩
      case round =>
        obtain ⟨s, HI⟩ := hrel
        obtain ⟨ad, c2, hv⟩ : ∃ ad c2, u3 = .slice ad s.length c2 := by
          rcases HI.out.1.own.form with ⟨e1, e2⟩ | ⟨g2, c2, e1, _⟩
          · exact ⟨none, 0, by rw [e1, e2]; rfl⟩
          · exact ⟨_, c2, e1⟩
        rcases Nat.lt_or_ge s.length 2 with h2 | h2
        · subst hv
          have g2 : decide (2 ≤ (s.length : Int)) = false := by simp; omega
          have g3 : decide (2 ≤ s.length) = false := by simp; omega
          go_wp2_with fail
          go_quiet (fail)
          have HD : Hid (LT w (wr.drewN nq) (.slice ad s.length c2) s k) := HI.out.1.go ((New.refl _).drewN nq)
          obtain ⟨y0, y1⟩ := HX.out (wr.drewN nq) (HI.out.2.2.drewN nq)
          have HE : Hid (s.reverse = pops D p (wayOf D (l.take k))) := by rw [Hid, ← HI.out.2.1, pops_short _ (by simpa using h2)]
          obtain ⟨vk, wk, k1, R⟩ := left_step HD.out hk' hl HC.out HE.out
          generalize wr.drewN nq = V at *
          go_wp2_with (first | (at_builtin; refine Go.Lib.wpList_append_run _ rfl _ _ 28 28 rfl _ _ rfl rfl vk wk k1 ?_) | go_in)
          go_roundw
          case rel => exact ⟨k + 1, s ++ [p], by go_num, hk', R⟩
          case measure => simp [intOf]; omega
        · obtain ⟨q, a, b, rfl⟩ := two_last h2
          clear hv h2 ad c2
          rcases HI.out.1.own.form with ⟨e1, e2⟩ | ⟨g2, c2, e1, _, hg2, hlc, _⟩
          · simp at e2
          · obtain ⟨m, hm⟩ : ∃ m, m = q.length := ⟨_, rfl⟩
            have el : (q ++ [a, b]).length = m + 2 := by simp [hm]
            rw [el] at e1 hlc
            subst e1
            have HA : Hid (LT w wr (.slice (some ⟨g2, 0, none⟩) (m + 2) c2) (q ++ [a, b]) k ∧ CdP a ∧ CdP b ∧ g2 < wr.heap.size) := ⟨HI.out.1, HI.out.1.cd a (by simp), HI.out.1.cd b (by simp), hg2⟩
            obtain ⟨a0, a1, b0, b1⟩ := last_cells hm HI.out.1
            obtain ⟨y0, y1⟩ := HX.out wr HI.out.2.2
            have HW : Hid (New wr wr.drew) := (New.refl _).dr
            have HM : Hid (m = q.length) := hm
            have ws : ((m + 2 : Nat) : Int) = (m : Int) + 2 := by omega
            have b1' : (0 : Int) ≤ (m : Int) := by omega
            have b2' : (m : Int) < (m : Int) + 2 := by omega
            have b3' : (0 : Int) ≤ (m : Int) + 1 := by omega
            have b4' : (m : Int) + 1 < (m : Int) + 2 := by omega
            have b5' : ((m : Int) + 1).toNat = m + 1 := by omega
            have w0 : IntKind.i64.wrap (m : Int) = (m : Int) := by rw [IntKind.wrap_i64]; have := HI.out.1.len; simp at this; omega
            have gd : decide (2 ≤ (m : Int) + 2) = true := by simp; omega
            have w1 : IntKind.i64.wrap ((m : Int) + 2 - 2) = (m : Int) := by rw [IntKind.wrap_i64]; have := HI.out.1.len; simp at this; omega
            have w2 : IntKind.i64.wrap ((m : Int) + 2 - 1) = (m : Int) + 1 := by rw [IntKind.wrap_i64]; have := HI.out.1.len; simp at this; omega
            have KS : Hid (∀ V, New wr V → V.cell? ⟨g2, m * 2, none⟩ = some (.int .i64 a.1) ∧ V.cell? ⟨g2, m * 2 + 1, none⟩ = some (.int .i64 a.2) ∧ V.cell? ⟨g2, (m + 1) * 2, none⟩ = some (.int .i64 b.1) ∧ V.cell? ⟨g2, (m + 1) * 2 + 1, none⟩ = some (.int .i64 b.2) ∧ V.cell? ⟨wo.heap.size, 0, none⟩ = some (.int .i64 p.1) ∧ V.cell? ⟨wo.heap.size, 1, none⟩ = some (.int .i64 p.2)) := fun V h => ⟨h.kept' a0, h.kept' a1, h.kept' b0, h.kept' b1, h.kept' y0, h.kept' y1⟩
            clear hm el
            go_wp2_with fail
            go_region_held3 (fun V => V.cell? ⟨g2, m * 2, none⟩ = some (.int .i64 a.1) ∧ V.cell? ⟨g2, m * 2 + 1, none⟩ = some (.int .i64 a.2) ∧ V.cell? ⟨g2, (m + 1) * 2, none⟩ = some (.int .i64 b.1) ∧ V.cell? ⟨g2, (m + 1) * 2 + 1, none⟩ = some (.int .i64 b.2) ∧ V.cell? ⟨wo.heap.size, 0, none⟩ = some (.int .i64 p.1) ∧ V.cell? ⟨wo.heap.size, 1, none⟩ = some (.int .i64 p.2))
              (first | exact KS.out _ HW.out)
              (first | (go_at_call 37; refine (of_any a.1 a.2 b.1 b.2 p.1 p.2 _ HA.out.2.1.1 HA.out.2.1.2 HA.out.2.2.1.1 HA.out.2.2.1.2 HC.out.1.1 HC.out.1.2).mono ?_; rintro e w3 ⟨rfl, H3⟩; replace HW : Hid (New wr w3) := HW.out.trans' H3.out; clear H3))
            have H3 : Hid (LT w w3 (.slice (some ⟨g2, 0, none⟩) (m + 2) c2) (q ++ [a, b]) k ∧ New (wo.alloc (.cells #[.int .i64 p.1, .int .i64 p.2] 23)) w3) := ⟨HA.out.1.go HW.out, HI.out.2.2.trans' HW.out⟩
            obtain ⟨z0, z1⟩ := HX.out w3 H3.out.2
            by_cases hd : sgn (det a.1 a.2 b.1 b.2 p.1 p.2) ≤ 0
            · have HD : Hid (D a b p ≤ 0) := by
                have := hd
                rw [sgn_le] at this
                exact this
              have HN : Hid (LT w w3 (.slice (some ⟨g2, 0, none⟩) (m + 1) c2) (q ++ [a]) k ∧ pops D p (q ++ [a]).reverse = pops D p (wayOf D (l.take k))) := by
                refine ⟨?_, ?_⟩
                · have h5 := H3.out.1
                  have e1 : q ++ [a, b] = (q ++ [a]) ++ [b] := by simp
                  have e2 : m + 2 = ((q ++ [a]) ++ [b]).length := by simp [HM.out]
                  have e3 : m + 1 = (q ++ [a]).length := by simp [HM.out]
                  rw [e1, e2] at h5
                  rw [e3]
                  exact h5.cut
                · rw [← HI.out.2.1]
                  have e : (q ++ [a, b]).reverse = b :: a :: q.reverse := by simp
                  rw [e, pops, if_pos HD.out]
                  simp
              clear a0 a1 b0 b1 y0 y1 z0 z1
              go_wp2_with fail
              go_roundw
              case rel => exact ⟨q ++ [a], HN.out.1, HN.out.2, H3.out.2⟩
              case measure => simp [lenV]
            · have HD : Hid (¬D a b p ≤ 0) := fun h => hd (sgn_le.2 h)
              have HE : Hid ((q ++ [a, b]).reverse = pops D p (wayOf D (l.take k))) := by
                rw [Hid, ← HI.out.2.1]
                have e : (q ++ [a, b]).reverse = b :: a :: q.reverse := by simp
                rw [e, pops, if_neg HD.out]
              obtain ⟨vk, wk, k1, R⟩ := left_step H3.out.1 hk' hl HC.out HE.out
              clear a0 a1 b0 b1 y0 y1
              go_wp2_with (first | (at_builtin; refine Go.Lib.wpList_append_run _ rfl _ _ 28 28 rfl _ _ rfl rfl vk wk k1 ?_) | go_in)
              go_roundw
              case rel => exact ⟨k + 1, q ++ [a, b] ++ [p], by go_num, hk', R⟩
              case measure => simp [intOf]; omega
    · have e : k = l.length := by omega
      subst e
      go_wp2_with fail
      go_ret
      exact ⟨_, t, rfl, by rw [H.out.2, List.take_length], H.out.1.new, H.out.1.own⟩
end Go.Proofs.Ytgeoffpcmkofkaa
/- 'Reverse' of package slices, at points. -/
namespace Go.Proofs.Ytgeoffpcmkofkaa
open Go.RowKit Fl Go.Sort Go.Shelf Go.Lib
set_option maxRecDepth 100000

def Try.revP_ren : Go.Shelf.Ren := ⟨fun | 35 => 88 | n => n, fun | 22 => 28 | 23 => 23 | n => n, fun | n => n⟩
theorem Try.revP : Go.Proofs.SlLaysE0.n35 Try.prog Try.revP_ren := {
  mixed := by kernel_rfl
  f35 := ⟨Try.f88.name, by decide, Try.func88.trans (congrArg some (by kernel_rfl))⟩
  t0 := Try.underlying0
  a0 := Try.isAgg0
  z0 := Try.sizeOf0
  v0 := Try.zeroValue0
  t3 := Try.underlying3
  a3 := Try.isAgg3
  z3 := Try.sizeOf3
  v3 := Try.zeroValue3
  t4 := Try.underlying4
  a4 := Try.isAgg4
  z4 := Try.sizeOf4
  v4 := Try.zeroValue4
  t22 := Try.underlying28
  a22 := Try.isAgg28
  z22 := Try.sizeOf28
  v22 := Try.zeroValue28 }
theorem reverse_any (base g cap : Nat) (l : Pts) (w : World) (h : OwnP w base (.slice (some ⟨g, 0, none⟩) l.length cap) l) (hl : l.length ≤ 1000000) :
    Calls Try.prog 88 #[.slice (some ⟨g, 0, none⟩) l.length cap] w fun e w' => e = .returned (.tuple #[]) ∧ Hid (w.grownBy w' (some g) ∧ OwnP w' base (.slice (some ⟨g, 0, none⟩) l.length cap) l.reverse) := by
  have hc := AnyQ.slices_Reverse Try.revP 2 Try.isAgg23 Try.sizeOf23 encP lenP (fun x v hv => by simp [encP] at hv; rcases hv with rfl | rfl <;> rfl) g 0 cap l.toArray w (holdsK_row lenP h rfl) (by simpa using (show l.length ≤ 9223372036854775807 by omega))
  change Calls Try.prog 88 _ _ _ at hc
  refine hc.mono fun e w' hh => ?_
  obtain ⟨he, n, rfl⟩ := hh
  have hr := sorted_row lenP (m := n) (os := #[]) (l' := l.reverse) h rfl (by simp)
  have e : sortWorldK encP 2 w g 0 n l.reverse.toArray #[] = putRowK encP 2 (Sort.ahead w n) g 0 l.toArray.reverse := by
    simp [sortWorldK, grow]
  rw [e] at hr
  exact ⟨he, hr.2, by unfold OwnP; rw [List.length_reverse]; exact hr.1⟩
end Go.Proofs.Ytgeoffpcmkofkaa
/- 'Grow' and 'Concat' of package slices, at points. -/
namespace Go.Proofs.Ytgeoffpcmkofkaa
open Go.RowKit Fl Go.Lib
set_option maxRecDepth 100000
attribute [local go_sem ↓] Go.wp_at_zero Go.wp_at_succ

set_option maxHeartbeats 800000 in
theorem grow_nil (n : Nat) (w : World) (h0 : 0 < n) (hn : n ≤ 1000000) :
    Calls Try.prog 103 #[.slice none 0 0, .int .i64 (n : Int)] w fun e w' => ∃ v, e = .returned v ∧ Hid (New w w' ∧ OwnP w' w.heap.size v []) := by
  obtain ⟨i0, hi0, hz0, hz1, hz2⟩ := info_parts Try.info23
  have k1 := run_append_nil_zeros (P := Try.prog) w 28 3 28 23 i0 _ .i64 .i64 Try.underlying28 Try.underlying3 hi0 hz0 n h0 (by rw [hz1]; omega) (by omega) (by rw [hz2]; omega)
  have HG : Hid (n ≤ grownCap w n 0 23 ∧ grownCap w n 0 23 ≤ maxLen) := ⟨grownCap_ge _ _ _ _, grownCap_le_maxLen _ _ _ _ (by unfold maxLen; omega)⟩
  have HO : Hid (∀ cap cur, cap = grownCap w n 0 23 → cur = Builtin.zeroCells (Value.cells (.agg #[.int .i64 0, .int .i64 0])) n ++ Builtin.zeroCells (Value.cells (.agg #[.int .i64 0, .int .i64 0])) (grownCap w n 0 23 - n) → (w.drew.alloc (.cells cur 23)).ownsRow w.heap.size 23 2 (.slice (some ⟨w.heap.size, 0, none⟩) 0 cap) 0 []) := fun cap cur hc hcur => by
    subst hc
    have h2 := HG.out
    exact World.ownsRow_made w.drew cur _ (Nat.le_refl _) h2.2 (by rw [hcur]; simp [Builtin.zeroCells, Value.cells]; omega)
  obtain ⟨cp, wk, k2, hcp, HK⟩ : ∃ cp wk, (Builtin.append_ #[28, 3] 28 #[.slice none 0 0, .int .i64 (n : Int)]).run Try.prog w = .ok (.slice (some ⟨w.heap.size, 0, none⟩) n cp) wk ∧ n ≤ cp ∧ Hid (New w wk ∧ OwnP wk w.heap.size (.slice (some ⟨w.heap.size, 0, none⟩) 0 cp) []) :=
    ⟨_, _, k1, HG.out.1, ((New.refl w).dr).alloc' _, HO.out _ _ rfl rfl⟩
  clear k1 HG HO hi0 hz0 hz1 hz2
  have hw1 : IntKind.i64.wrap (n : Int) = (n : Int) := by rw [IntKind.wrap_i64]; omega
  have hn0 : ¬((n : Int) < 0) := by omega
  have hn1 : (0 : Int) < (n : Int) := by omega
  go_enter Try.func103, Try.ntmps103
  go_wp2_with (first | (at_builtin; refine Go.Lib.wpList_append_run _ rfl _ _ 28 3 rfl _ _ rfl rfl _ wk k2 ?_) | go_in)
  go_ret
  exact ⟨_, rfl, HK.out⟩

theorem concat_step {w wr : World} {v : Value} {g c : Nat} {xs ys : Pts} (hn : New w wr) (ho : OwnP wr w.heap.size v xs) (hp : PtsAt wr g 0 ys) (hl : xs.length + ys.length ≤ 1000000) :
    ∃ vk wk, (Builtin.append_ #[28, 28] 28 #[v, .slice (some ⟨g, 0, none⟩) ys.length c]).run Try.prog wr = .ok vk wk ∧ Hid (New w wk ∧ OwnP wk w.heap.size vk (xs ++ ys)) := by
  obtain ⟨i0, hi0, hz0, hz1, hz2⟩ := info_parts Try.info23
  obtain ⟨vk, wk, k1, k2, k3, k4⟩ := run_append_own (P := Try.prog) wr w.heap.size 28 28 23 i0 _ 2 16 Try.underlying28 hi0 hz0 hz1 hz2 rfl (by omega) v xs.length (xs.flatMap encP) ho ⟨g, 0, none⟩ ys.length c (ys.flatMap encP) (flat_length lenP ys)
    (fun j u hu => by rw [← flatP_eq] at hu; exact pts_cells hp j u hu) (encP_one ys) (by unfold maxLen; omega) (by omega) (by have := hn.size; omega)
  refine ⟨vk, wk, k1, hn.trans k3 fun g hg => ?_, ?_⟩
  · rcases Nat.lt_or_ge g w.heap.size with h1 | h1
    · exact absurd hg.symm (own_ne ho h1)
    · exact h1
  · unfold OwnP
    rw [List.flatMap_append, List.length_append]
    exact k2

set_option maxHeartbeats 1600000 in
theorem concat_two (gs g1 c1 g2 c2 : Nat) (l1 l2 : Pts) (w : World) (q1 : w.cell? ⟨gs, 0, none⟩ = some (.slice (some ⟨g1, 0, none⟩) l1.length c1)) (q2 : w.cell? ⟨gs, 1, none⟩ = some (.slice (some ⟨g2, 0, none⟩) l2.length c2))
    (hp1 : PtsAt w g1 0 l1) (hp2 : PtsAt w g2 0 l2) (b1 : g1 < w.heap.size) (b2 : g2 < w.heap.size) (h0 : 0 < l1.length + l2.length) (hl : l1.length + l2.length ≤ 1000000) :
    Calls Try.prog 89 #[.slice (some ⟨gs, 0, none⟩) 2 2] w fun e w' => ∃ v, e = .returned v ∧ Hid (New w w' ∧ OwnP w' w.heap.size v (l1 ++ l2)) := by
  have HP : Hid (PtsAt w g1 0 l1 ∧ PtsAt w g2 0 l2 ∧ g1 < w.heap.size ∧ g2 < w.heap.size) := ⟨hp1, hp2, b1, b2⟩
  clear hp1 hp2 b1 b2
  have HQ : Hid (∀ V, New w V → V.cell? ⟨gs, 0, none⟩ = some (.slice (some ⟨g1, 0, none⟩) l1.length c1) ∧ V.cell? ⟨gs, 1, none⟩ = some (.slice (some ⟨g2, 0, none⟩) l2.length c2)) := fun V h => ⟨h.kept' q1, h.kept' q2⟩
  obtain ⟨n1, e1⟩ : ∃ n, n = l1.length := ⟨_, rfl⟩
  obtain ⟨n2, e2⟩ : ∃ n, n = l2.length := ⟨_, rfl⟩
  rw [← e1, ← e2] at h0 hl
  have HE : Hid (n1 = l1.length ∧ n2 = l2.length) := ⟨e1, e2⟩
  rw [← e1] at q1 HQ
  rw [← e2] at q2 HQ
  clear e1 e2
  have wr1 : IntKind.i64.wrap (n1 : Int) = (n1 : Int) := by rw [IntKind.wrap_i64]; omega
  have wr2 : IntKind.i64.wrap ((n1 : Int) + (n2 : Int)) = (n1 : Int) + (n2 : Int) := by rw [IntKind.wrap_i64]; omega
  have n10 : ¬((n1 : Int) < 0) := by omega
  have n20 : ¬((n1 : Int) + (n2 : Int) < 0) := by omega
  go_enter Try.func89, Try.ntmps89
  go_wp2_with fail
  go_loop [3, 11] (fun s i => (i = .int .i64 0 ∧ s = .int .i64 0) ∨ (i = .int .i64 1 ∧ s = .int .i64 (n1 : Int)) ∨ (i = .int .i64 2 ∧ s = .int .i64 ((n1 : Int) + (n2 : Int)))) (fun _ i => 2 - (intOf i).toNat)
  case atStart => exact .inl ⟨rfl, rfl⟩
  case round =>
    rcases hrel with ⟨rfl, rfl⟩ | ⟨rfl, rfl⟩ | ⟨rfl, rfl⟩
    · go_wp2_with fail
      go_round
      case rel => exact .inr (.inl ⟨rfl, rfl⟩)
      case measure => simp [intOf]
    · go_wp2_with fail
      go_round
      case rel => exact .inr (.inr ⟨rfl, rfl⟩)
      case measure => simp [intOf]
    · go_wp2_with fail
      have hg := grow_nil (n1 + n2) w h0 hl
      rw [Int.natCast_add] at hg
      refine hg.mono ?_
      rintro e w1 ⟨v1, rfl, H1⟩
      clear hg
      go_wp2_with fail
      clear q1 q2
      go_loopw [6, 27] (fun v i wr => (i = .int .i64 0 ∧ Hid (New w wr ∧ OwnP wr w.heap.size v [])) ∨ (i = .int .i64 1 ∧ Hid (New w wr ∧ OwnP wr w.heap.size v l1)) ∨ (i = .int .i64 2 ∧ Hid (New w wr ∧ OwnP wr w.heap.size v (l1 ++ l2)))) (fun _ i _ => 2 - (intOf i).toNat)
      case atStart => exact .inl ⟨rfl, H1⟩
      case round =>
        rcases hrel with ⟨rfl, H⟩ | ⟨rfl, H⟩ | ⟨rfl, H⟩
        · obtain ⟨q1, q2⟩ := HQ.out wr H.out.1
          obtain ⟨vk, wk, k1, R⟩ := concat_step (c := c1) H.out.1 H.out.2 (HP.out.1.kept HP.out.2.2.1 H.out.1) (by have := HE.out; simp; omega)
          rw [← HE.out.1] at k1
          go_wp2_with (first | (at_builtin; refine Go.Lib.wpList_append_run _ rfl _ _ 28 28 rfl _ _ rfl rfl vk wk k1 ?_) | go_in)
          go_roundw
          case rel => exact .inr (.inl ⟨rfl, R⟩)
          case measure => simp [intOf]
        · obtain ⟨q1, q2⟩ := HQ.out wr H.out.1
          obtain ⟨vk, wk, k1, R⟩ := concat_step (c := c2) H.out.1 H.out.2 (HP.out.2.1.kept HP.out.2.2.2 H.out.1) (by have := HE.out; omega)
          rw [← HE.out.2] at k1
          go_wp2_with (first | (at_builtin; refine Go.Lib.wpList_append_run _ rfl _ _ 28 28 rfl _ _ rfl rfl vk wk k1 ?_) | go_in)
          go_roundw
          case rel => exact .inr (.inr ⟨rfl, R⟩)
          case measure => simp [intOf]
        · go_wp2_with fail
          go_ret
          exact ⟨_, rfl, H.out⟩
end Go.Proofs.Ytgeoffpcmkofkaa
/- The walk of hull's 'around'. -/
namespace Go.Proofs.Ytgeoffpcmkofkaa
open Go.RowKit Fl Go.Lib
set_option maxRecDepth 100000
attribute [local go_sem ↓] Go.wp_at_zero Go.wp_at_succ

/-- There and back, each without its last point. -/
def ringL (s : Pts) : Pts := if s.length < 2 then s else (wayOf D s).reverse.dropLast ++ (wayOf D s.reverse).reverse.dropLast

theorem OwnP.base {w : World} {b b' : Nat} {v : Value} {l : Pts} (h : OwnP w b v l) (hb : b' ≤ b) : OwnP w b' v l :=
  ⟨h.1, h.2.imp id fun ⟨g, cap, cur, h1, h2, h3⟩ => ⟨g, cap, cur, h1, Nat.le_trans hb h2, h3⟩⟩
theorem OwnP.but {w w' : World} {base g g2 n cap : Nat} {l : Pts} (h : OwnP w base (.slice (some ⟨g, 0, none⟩) n cap) l) (hg : w.grownBy w' (some g2)) (hne : g ≠ g2) : OwnP w' base (.slice (some ⟨g, 0, none⟩) n cap) l :=
  World.ownsRow.kept h hg (.inr (by simp [Value.ownBlock, hne]))
theorem pops_ne (p : Pt) : ∀ {l : Pts}, l ≠ [] → pops D p l ≠ []
  | [], h => absurd rfl h
  | [a], _ => by simp [pops]
  | t :: s :: l, _ => by
    rw [pops]
    split
    · exact pops_ne p (by simp)
    · simp
theorem pops_le (p : Pt) : ∀ l : Pts, (pops D p l).length ≤ l.length
  | [] => by simp [pops]
  | [a] => by simp [pops]
  | t :: s :: l => by
    rw [pops]
    split
    · have := pops_le p (s :: l); simp at this ⊢; omega
    · simp
theorem way_ne : ∀ (k : Nat) (s : Pts), 0 < k → k ≤ s.length → wayOf D (s.take k) ≠ []
  | 0, _, h, _ => by omega
  | k + 1, s, _, h => by rw [wayOf_succ (List.getElem?_eq_getElem (show k < s.length by omega))]; simp
theorem way_len {s : Pts} (h : 2 ≤ s.length) : 2 ≤ (wayOf D s).length := by
  obtain ⟨k, hk⟩ : ∃ k, s.length = k + 1 + 1 := ⟨s.length - 2, by omega⟩
  have e := wayOf_succ (l := s) (k := k + 1) (List.getElem?_eq_getElem (show k + 1 < s.length by omega))
  rw [show k + 1 + 1 = s.length by omega, List.take_length] at e
  rw [e]
  have h1 := pops_ne s[k + 1] (way_ne (k + 1) s (by omega) (by omega))
  have : 0 < (pops D s[k + 1] (wayOf D (s.take (k + 1)))).length := List.length_pos_iff.2 h1
  simp
  omega
theorem way_le : ∀ (k : Nat) (s : Pts), k ≤ s.length → (wayOf D (s.take k)).length ≤ k
  | 0, _, _ => by simp [wayOf]
  | k + 1, s, h => by
    rw [wayOf_succ (List.getElem?_eq_getElem (show k < s.length by omega))]
    have h1 := way_le k s (by omega)
    have h2 := pops_le s[k] (wayOf D (s.take k))
    simp
    omega
theorem way_le' (s : Pts) : (wayOf D s).length ≤ s.length := by
  have := way_le s.length s (Nat.le_refl _)
  rwa [List.take_length] at this

theorem pts_cut {w : World} {g : Nat} {t : Pts} (h : PtsAt w g 0 t) : PtsAt w g 0 t.dropLast := fun i hi => by
  have h1 : i < t.length := by simp at hi; omega
  have h2 := h i h1
  have e : t.dropLast[i] = t[i] := List.getElem_dropLast hi
  rw [e]
  exact h2

set_option maxHeartbeats 1600000 in
theorem around_some (g off cap : Nat) (l : Pts) (w : World) (hp : PtsAt w g off l) (hl : l.length ≤ 400000) (hc : ∀ x ∈ l, CdP x) :
    Calls Try.prog 70 #[.slice (some ⟨g, off, none⟩) l.length cap] w fun e w' => ∃ v s, e = .returned v ∧ Hid (IsDis l s ∧ New w w' ∧ OwnP w' w.heap.size v (ringL s)) := by
  have HC : Hid (∀ x ∈ l, CdP x) := hc
  go_enter Try.func70, Try.ntmps70
  go_wp2_with fail
  refine (distinct_some g off cap l w hp (by omega) hc).mono ?_
  rintro e w1 ⟨v1, s, rfl, H1⟩
  obtain ⟨ad, c1, hv⟩ : ∃ ad c1, v1 = .slice ad s.length c1 := by
    rcases H1.out.2.2.form with ⟨e1, e2⟩ | ⟨g2, c2, e1, _⟩
    · exact ⟨none, 0, by rw [e1, e2]; rfl⟩
    · exact ⟨_, c2, e1⟩
  clear hp hc
  rcases Nat.lt_or_ge s.length 2 with h2 | h2
  · subst hv
    have HR : Hid (ringL s = s) := if_pos h2
    have h2' : (s.length : Int) < 2 := by omega
    go_wp2_with fail
    go_ret
    exact ⟨_, s, rfl, H1.out.1, H1.out.2.1, by rw [HR.out]; exact H1.out.2.2⟩
  · clear hv ad c1
    rcases H1.out.2.2.form with ⟨_, e2⟩ | ⟨g1, c1, e1, hb1, hg1, hlc, hcm⟩
    · rw [e2] at h2; simp at h2
    · subst e1
      have hsl := H1.out.1.len
      have HS : Hid (w.heap.size ≤ g1 ∧ g1 < w1.heap.size ∧ 2 ≤ s.length ∧ ∀ x ∈ s, CdP x) := ⟨hb1, hg1, h2, fun x hx => HC.out x ((H1.out.1.mem x).1 hx)⟩
      have hsl' : s.length ≤ 400000 := by omega
      have h2' : ¬(s.length : Int) < 2 := by omega
      clear hb1 hg1 hcm hsl h2
      go_wp2_with fail
      refine (left_any g1 c1 s w1 H1.out.2.2.pts HS.out.2.1 (by omega) HS.out.2.2.2).mono ?_
      rintro e w2 ⟨v2, t2, rfl, H2⟩
      have k2 : OwnP w2 w.heap.size (.slice (some ⟨g1, 0, none⟩) s.length c1) s := H1.out.2.2.new H2.out.2.1
      go_wp2_with fail
      refine (reverse_any w.heap.size g1 c1 s w2 k2 (by omega)).mono ?_
      rintro e w3 ⟨rfl, H3⟩
      go_wp2_with fail
      have k3 : OwnP w3 w.heap.size (.slice (some ⟨g1, 0, none⟩) s.reverse.length c1) s.reverse := by rw [List.length_reverse]; exact H3.out.2
      have hb := left_any g1 c1 s.reverse w3 k3.pts (by have := H3.out.1.size; have := H2.out.2.1.size; have := HS.out.2.1; omega) (by simp; omega) (fun x hx => HS.out.2.2.2 x (by simpa using hx))
      rw [List.length_reverse] at hb
      refine hb.mono ?_
      clear hb k2 k3
      rintro e w4 ⟨v4, t4, rfl, H4⟩
      rcases H2.out.2.2.form with ⟨_, e2⟩ | ⟨g2, c2, e2, hb2, hg2, hlc2, _⟩
      · have h5 := way_len HS.out.2.2.1
        rw [← H2.out.1, e2] at h5
        simp at h5
      · rcases H4.out.2.2.form with ⟨_, e4⟩ | ⟨g4, c4, e4, hb4, hg4, hlc4, _⟩
        · have h5 := way_len (s := s.reverse) (by simpa using HS.out.2.2.1)
          rw [← H4.out.1, e4] at h5
          simp at h5
        · subst e2 e4
          have q2 : 2 ≤ t2.length := by have h5 := way_len HS.out.2.2.1; rw [← H2.out.1] at h5; simpa using h5
          have q4 : 2 ≤ t4.length := by have h5 := way_len (s := s.reverse) (by simpa using HS.out.2.2.1); rw [← H4.out.1] at h5; simpa using h5
          have u2 : t2.length ≤ s.length := by have h5 := way_le' s; rw [← H2.out.1] at h5; simpa using h5
          have u4 : t4.length ≤ s.length := by have h5 := way_le' s.reverse; rw [← H4.out.1] at h5; simpa using h5
          have o2 : OwnP w4 w.heap.size (.slice (some ⟨g2, 0, none⟩) t2.length c2) t2 := by
            have := HS.out.2.1
            exact ((H2.out.2.2.base H1.out.2.1.size).but H3.out.1 (by omega)).new H4.out.2.1
          have HN : Hid (New w w4) := (((H1.out.2.1.trans' H2.out.2.1).own H3.out.1 HS.out.1).trans' H4.out.2.1)
          obtain ⟨n2, en2⟩ : ∃ n, t2.length = n + 1 := ⟨t2.length - 1, by omega⟩
          obtain ⟨n4, en4⟩ : ∃ n, t4.length = n + 1 := ⟨t4.length - 1, by omega⟩
          have HK : Hid (∀ V, New w4 V → V.cell? ⟨w4.heap.size, 0, none⟩ = some (.slice (some ⟨g2, 0, none⟩) n2 c2) → V.cell? ⟨w4.heap.size, 1, none⟩ = some (.slice (some ⟨g4, 0, none⟩) n4 c4) → Calls Try.prog 89 #[.slice (some ⟨w4.heap.size, 0, none⟩) 2 2] V fun e w' => ∃ v, e = .returned v ∧ Hid (New w w' ∧ OwnP w' w.heap.size v (ringL s))) := fun V hV x1 x2 => by
            have l2 : t2.dropLast.length = n2 := by simp [en2]
            have l4 : t4.dropLast.length = n4 := by simp [en4]
            have hq := concat_two w4.heap.size g2 c2 g4 c4 t2.dropLast t4.dropLast V (by rw [l2]; exact x1) (by rw [l4]; exact x2) (pts_cut (o2.new hV).pts) (pts_cut (H4.out.2.2.new hV).pts) (by have := hV.size; have := H4.out.2.1.size; have := H3.out.1.size; omega) (by have := hV.size; omega) (by omega) (by omega)
            refine hq.mono ?_
            rintro e w' ⟨v, rfl, H5⟩
            refine ⟨v, rfl, (HN.out.trans' hV).trans' H5.out.1, ?_⟩
            have e : ringL s = t2.dropLast ++ t4.dropLast := by
              unfold ringL
              rw [if_neg (by have := HS.out.2.2.1; omega), ← H2.out.1, ← H4.out.1, List.reverse_reverse, List.reverse_reverse]
            rw [e]
            exact H5.out.2.base (Nat.le_trans HN.out.size hV.size)
          rw [en2] at hlc2 ⊢
          rw [en4] at hlc4 ⊢
          have HI : Hid (IsDis l s) := H1.out.1
          have b2 : n2 ≤ c2 := by omega
          have b4 : n4 ≤ c4 := by omega
          have x2 : IntKind.i64.wrap ((n2 : Int) + 1 - 1) = (n2 : Int) := by rw [IntKind.wrap_i64]; omega
          have x4 : IntKind.i64.wrap ((n4 : Int) + 1 - 1) = (n4 : Int) := by rw [IntKind.wrap_i64]; omega
          have y2 : IntKind.i64.wrap (n2 : Int) = (n2 : Int) := by rw [IntKind.wrap_i64]; omega
          have y4 : IntKind.i64.wrap (n4 : Int) = (n4 : Int) := by rw [IntKind.wrap_i64]; omega
          have z2 : ((n2 + 1 : Nat) : Int) = (n2 : Int) + 1 := by omega
          have z4 : ((n4 + 1 : Nat) : Int) = (n4 : Int) + 1 := by omega
          have f2 : (0 : Int) ≤ (n2 : Int) := by omega
          have f4 : (0 : Int) ≤ (n4 : Int) := by omega
          have j2 : (n2 : Int) ≤ (c2 : Int) := by omega
          have j4 : (n4 : Int) ≤ (c4 : Int) := by omega
          clear H1 H2 H3 H4 o2 q2 q4 u2 u4 hlc2 hlc4 en2 en4 hb2 hb4 hg2 hg4 hlc hsl' h2'
          go_wp2_with fail
          go_region_held3 (fun _ => 0 ≤ 0) (first | exact Nat.le_refl 0)
            (first | (go_at_call 89; refine (HK.out _ ((New.refl w4).dr.alloc' _) (by go_simp) (by go_simp)).mono ?_; rintro e w5 ⟨v5, rfl, H5⟩))
          go_wp2_with fail
          go_ret
          exact ⟨v5, s, rfl, HI.out, H5.out⟩

set_option maxHeartbeats 800000 in
theorem around_nil (w : World) : Calls Try.prog 70 #[.slice none 0 0] w fun e w' => e = .returned (.slice none 0 0) ∧ Hid (New w w') := by
  go_enter Try.func70, Try.ntmps70
  go_wp2_with fail
  refine (distinct_nil w).mono ?_
  rintro e w1 ⟨rfl, H1⟩
  go_wp2_with fail
  go_ret
  exact ⟨rfl, H1.out⟩
end Go.Proofs.Ytgeoffpcmkofkaa
/- 'around', as the main goroutine's walk and the others' ask for it. -/
namespace Go.Proofs.Ytgeoffpcmkofkaa
open Go Go.Conc Go.RowKit Fl

theorem rowQ_own {r0 base : Nat} {v : Value} {w : World} {out : Pts} (h : OwnP w base v out) (hr : r0 < base) : RowQ r0 v w out := by
  rcases h.form with ⟨rfl, e⟩ | ⟨g, cap, rfl, hb, _⟩
  · exact .inl ⟨rfl, e⟩
  · exact .inr ⟨g, cap, rfl, by omega, h.pts⟩
/-- The cells of a list of points that lies in a block. -/
def PtsIn (c : Array Value) (off : Nat) (l : Pts) : Prop := ∀ i (hi : i < l.length), c[off + i * 2]? = some (.int .i64 l[i].1) ∧ c[off + i * 2 + 1]? = some (.int .i64 l[i].2)
theorem PtsIn.at {c : Array Value} {off r0 : Nat} {l : Pts} {w : World} {fz : Nat × Nat} (h : PtsIn c off l) (hw : w.heap[r0]? = some (.cells c 23 fz)) : PtsAt w r0 off l := fun i hi => by
  obtain ⟨h1, h2⟩ := h i hi
  simp only [World.cell?, hw]
  exact ⟨h1, h2⟩
theorem aroundC {r0 off cap : Nat} {c : Array Value} {l s : Pts} (h : PtsIn c off l) (hl : l.length ≤ 400000) (hc : ∀ x ∈ l, CdP x) (hs : IsDis l s) : AroundC r0 off l.length cap c (ringL s) := fun wl hw => by
  refine (around_some r0 off cap l wl (h.at hw) hl hc).mono ?_
  rintro e w' ⟨v, s', rfl, H⟩
  have e : s' = s := dis_unique H.out.1.rising hs.rising fun x => by rw [H.out.1.mem, hs.mem]
  subst e
  exact ⟨v, rfl, rowQ_own H.out.2.2 (Array.getElem?_eq_some_iff.1 hw).1⟩
theorem aroundN : AroundN [] := fun wl => (around_nil wl).mono fun _ _ h => ⟨_, h.1, .inl ⟨rfl, rfl⟩⟩
end Go.Proofs.Ytgeoffpcmkofkaa
/- There and back: where the two ways meet. (Pure.) -/
namespace Go.Proofs.Ytgeoffpcmkofkaa
section
variable {α : Type} {D : α → α → α → Int} {K : α → Int}
theorem Pl.neg (h : Pl D K) : Pl D (fun x => -K x) := ⟨h.rot, h.swp, fun s t p x => by have := h.pl s t p x; grind⟩
/-- If the two ways do not turn where they meet, all lies in a line. -/
theorem Pl.join (h : Pl D K) {u m v x : α} (k1 : K u < K m) (k2 : K v < K m) (hd : D u m v = 0) (h1 : 0 ≤ D u m x) (h2 : 0 ≤ D m v x) : D u m x = 0 ∧ D m v x = 0 := by
  have e := h.pl m v u x
  have r1 := h.swp u m x
  have r2 := h.rot u m v
  have e0 : D m v u = 0 := by omega
  rw [e0, r1] at e
  have a1 := Int.mul_nonneg h1 (show 0 ≤ K m - K v by omega)
  have a2 := Int.mul_nonneg h2 (show 0 ≤ K m - K u by omega)
  have e1 : -D u m x * (K v - K m) = D u m x * (K m - K v) := by grind
  have e2 : D m v x * (K u - K m) - 0 * (K x - K m) = -(D m v x * (K m - K u)) := by grind
  have z1 : D u m x * (K m - K v) = 0 := by omega
  have z2 : D m v x * (K m - K u) = 0 := by omega
  rcases Int.mul_eq_zero.1 z1 with z1 | z1
  · rcases Int.mul_eq_zero.1 z2 with z2 | z2
    · exact ⟨z1, z2⟩
    · omega
  · omega
/-- The turn where the way there ends and the way back begins: there are three corners or more. -/
theorem Pl.turn (h : Pl D K) {Seen : α → Prop} {u m v : α} (k1 : K u < K m) (k2 : K v < K m) (hu : ∀ x, Seen x → 0 ≤ D u m x) (hv : ∀ x, Seen x → 0 ≤ D m v x) (hsv : Seen v)
    (more : (∃ a, Seen a ∧ 0 < D a u m) ∨ ∃ b, Seen b ∧ 0 < D m v b) : 0 < D u m v := by
  rcases Int.lt_or_le 0 (D u m v) with hd | hd
  · exact hd
  · have hz : D u m v = 0 := by have := hu v hsv; omega
    rcases more with ⟨a, ha, hp⟩ | ⟨b, hb, hp⟩
    · have := (h.join k1 k2 hz (hu a ha) (hv a ha)).1
      have r := h.rot a u m
      omega
    · have := (h.join k1 k2 hz (hu b hb) (hv b hb)).2
      omega
end
end Go.Proofs.Ytgeoffpcmkofkaa
/- What holds of all corners of a part holds of all its points. (Pure.) -/
namespace Go.Proofs.Ytgeoffpcmkofkaa
/-- D u v is affine. -/
def Aff {α : Type} (D : α → α → α → Int) (K : α → Int) : Prop := ∀ u v a b x, D u v x * (K b - K a) = D u v a * (K b - K x) + D u v b * (K x - K a) + D a b x * (K v - K u)
section
variable {α : Type} {D : α → α → α → Int} {K : α → Int}
theorem Aff.neg (h : Aff D K) : Aff D (fun x => -K x) := fun u v a b x => by have := h u v a b x; grind
/-- The side of the way below which, or above which, x lies. -/
theorem span : ∀ {way : List α} {x : α}, Falls K way → (∀ t ∈ way.head?, K x ≤ K t) → (∀ m ∈ way.getLast?, K m ≤ K x) → way ≠ [] → LeftOf D x way → (∃ m, way = [m] ∧ K x = K m) ∨ ∃ a b, a ∈ way ∧ b ∈ way ∧ K a < K b ∧ K a ≤ K x ∧ K x ≤ K b ∧ 0 ≤ D a b x
  | [], x, _, _, _, hn, _ => absurd rfl hn
  | [m], x, _, ht, hl, _, _ => .inl ⟨m, rfl, by
      have h1 := ht m (by simp)
      have h2 := hl m (by simp)
      omega⟩
  | b :: a :: l, x, hf, ht, hl, _, hx => by
    rcases Int.lt_or_le (K x) (K a) with hk | hk
    · rcases span hf.2 (fun t e => by
        have : a = t := by simpa using e
        rw [← this]; exact Int.le_of_lt hk) (by simpa using hl) (by simp) hx.2 with ⟨m, e, e'⟩ | ⟨a', b', h1, h2, h3⟩
      · injection e with e1 e2
        subst e1
        omega
      · exact .inr ⟨a', b', List.mem_cons_of_mem _ h1, List.mem_cons_of_mem _ h2, h3⟩
    · exact .inr ⟨a, b, by simp, by simp, hf.1, hk, ht b (by simp), hx.1⟩
/-- A side that looks forward: it is enough to look at the way's points. -/
theorem enough (hA : Aff D K) {Seen : α → Prop} {way : List α} (hw : WayOK D K Seen way) {u v : α} (huv : K u ≤ K v) (hc : ∀ c ∈ way, 0 ≤ D u v c) {x : α} (hx : Seen x) : 0 ≤ D u v x := by
  have ht : ∀ t ∈ way.head?, K x ≤ K t := by
    intro t e
    cases way with
    | nil => simp at e
    | cons t' l =>
      have : t' = t := by simpa using e
      subst this
      exact hw.top t' l rfl x hx
  rcases span hw.falls ht (fun m e => (hw.low m e x hx).1) hw.some (hw.left x hx) with ⟨m, e, e'⟩ | ⟨a, b, h1, h2, h3, h4, h5, h6⟩
  · have : x = m := (hw.low m (by rw [e]; simp) x hx).2 e'
    rw [this]
    exact hc m (by rw [e]; simp)
  · have e := hA u v a b x
    refine pos_of (b := K b - K a) ?_ (by omega)
    rw [e]
    have a1 := Int.mul_nonneg (hc a h1) (show 0 ≤ K b - K x by omega)
    have a2 := Int.mul_nonneg (hc b h2) (show 0 ≤ K x - K a by omega)
    have a3 := Int.mul_nonneg h6 (show 0 ≤ K v - K u by omega)
    omega
end
end Go.Proofs.Ytgeoffpcmkofkaa
/- The ways, by places. (Pure.) -/
namespace Go.Proofs.Ytgeoffpcmkofkaa
section
variable {α : Type} {D : α → α → α → Int} {K : α → Int}
theorem Turns.get : ∀ {l : List α}, Turns D l → ∀ (i : Nat) {a b c : α}, l[i]? = some c → l[i + 1]? = some b → l[i + 2]? = some a → 0 < D a b c
  | [], _, i, _, _, _, h, _, _ => by simp at h
  | [_], _, 0, _, _, _, _, h, _ => by simp at h
  | [_], _, i + 1, _, _, _, h, _, _ => by simp at h
  | [_, _], _, 0, _, _, _, _, _, h => by simp at h
  | [_, _], _, i + 1, _, _, _, _, h, _ => by simp at h
  | c :: b :: a :: l, ht, 0, a', b', c', h1, h2, h3 => by
    simp at h1 h2 h3
    subst h1 h2 h3
    exact ht.1
  | c :: b :: a :: l, ht, i + 1, a', b', c', h1, h2, h3 => ht.2.get i (by simpa using h1) (by simpa using h2) (by simpa using h3)
theorem LeftOf.get {x : α} : ∀ {l : List α}, LeftOf D x l → ∀ (i : Nat) {u v : α}, l[i]? = some v → l[i + 1]? = some u → 0 ≤ D u v x
  | [], _, i, _, _, h, _ => by simp at h
  | [_], _, 0, _, _, _, h => by simp at h
  | [_], _, i + 1, _, _, h, _ => by simp at h
  | v :: u :: l, hl, 0, u', v', h1, h2 => by
    simp at h1 h2
    subst h1 h2
    exact hl.1
  | v :: u :: l, hl, i + 1, u', v', h1, h2 => hl.2.get i (by simpa using h1) (by simpa using h2)
theorem Falls.get : ∀ {l : List α}, Falls K l → ∀ (i : Nat) {u v : α}, l[i]? = some v → l[i + 1]? = some u → K u < K v
  | [], _, i, _, _, h, _ => by simp at h
  | [_], _, 0, _, _, _, h => by simp at h
  | [_], _, i + 1, _, _, h, _ => by simp at h
  | v :: u :: l, hl, 0, u', v', h1, h2 => by
    simp at h1 h2
    subst h1 h2
    exact hl.1
  | v :: u :: l, hl, i + 1, u', v', h1, h2 => hl.2.get i (by simpa using h1) (by simpa using h2)
/-- Read from its first point: rising, left turns, no point to the right. -/
structure Rises (D : α → α → α → Int) (K : α → Int) (Seen : α → Prop) (r : List α) : Prop where
  turns : ∀ (i : Nat) (a b c : α), r[i]? = some a → r[i + 1]? = some b → r[i + 2]? = some c → 0 < D a b c
  left : ∀ (i : Nat) (u v x : α), r[i]? = some u → r[i + 1]? = some v → Seen x → 0 ≤ D u v x
  rise : ∀ (i : Nat) (u v : α), r[i]? = some u → r[i + 1]? = some v → K u < K v
  part : ∀ x ∈ r, Seen x
theorem WayOK.rises {Seen : α → Prop} {way : List α} (h : WayOK D K Seen way) : Rises D K Seen way.reverse := by
  have rv : ∀ (j : Nat) (z : α), way.reverse[j]? = Option.some z → j < way.length ∧ way[way.length - 1 - j]? = Option.some z := by
    intro j z hz
    have hlt : j < way.length := by
      have := (List.getElem?_eq_some_iff.1 hz).1
      simpa using this
    rw [List.getElem?_reverse hlt] at hz
    exact ⟨hlt, hz⟩
  refine ⟨fun i a b c h1 h2 h3 => ?_, fun i u v x h1 h2 hx => ?_, fun i u v h1 h2 => ?_, fun x hx => h.part x (by simpa using hx)⟩
  · obtain ⟨l1, e1⟩ := rv _ _ h1
    obtain ⟨l2, e2⟩ := rv _ _ h2
    obtain ⟨l3, e3⟩ := rv _ _ h3
    exact h.turns.get (way.length - 1 - (i + 2)) e3 (by rw [show way.length - 1 - (i + 2) + 1 = way.length - 1 - (i + 1) by omega]; exact e2) (by rw [show way.length - 1 - (i + 2) + 2 = way.length - 1 - i by omega]; exact e1)
  · obtain ⟨l1, e1⟩ := rv _ _ h1
    obtain ⟨l2, e2⟩ := rv _ _ h2
    exact (h.left x hx).get (way.length - 1 - (i + 1)) e2 (by rw [show way.length - 1 - (i + 1) + 1 = way.length - 1 - i by omega]; exact e1)
  · obtain ⟨l1, e1⟩ := rv _ _ h1
    obtain ⟨l2, e2⟩ := rv _ _ h2
    exact h.falls.get (way.length - 1 - (i + 1)) e2 (by rw [show way.length - 1 - (i + 1) + 1 = way.length - 1 - i by omega]; exact e1)
end
end Go.Proofs.Ytgeoffpcmkofkaa
/- The closed way round: its sides and its turns. (Pure.) -/
namespace Go.Proofs.Ytgeoffpcmkofkaa
section
variable {α : Type} {D : α → α → α → Int} {K : α → Int} {Seen : α → Prop}
/-- There and back again. -/
structure Round (T U : List α) (p q : Nat) : Prop where
  lenT : T.length = p + 1
  lenU : U.length = q + 1
  p1 : 1 ≤ p
  q1 : 1 ≤ q
  join : T[p]? = U[0]?
  close : U[q]? = T[0]?
/-- Each way without its last point. -/
def ring (T U : List α) (p q : Nat) : List α := T.take p ++ U.take q
theorem Round.length {T U : List α} {p q : Nat} (h : Round T U p q) : (ring T U p q).length = p + q := by
  simp only [ring, List.length_append, List.length_take, h.lenT, h.lenU]
  omega
theorem Round.at {T U : List α} {p q : Nat} (h : Round T U p q) {i : Nat} (hi : i < p + q) : (ring T U p q)[i]? = if i < p then T[i]? else U[i - p]? := by
  have hl : (T.take p).length = p := by simp [h.lenT]
  unfold ring
  by_cases hp : i < p
  · rw [List.getElem?_append_left (by rw [hl]; exact hp), List.getElem?_take_of_lt hp, if_pos hp]
  · rw [List.getElem?_append_right (by rw [hl]; omega), hl, List.getElem?_take_of_lt (by omega), if_neg hp]
/-- The place behind, round about. -/
theorem Round.next {T U : List α} {p q : Nat} (h : Round T U p q) {i : Nat} (hi : i < p + q) : (ring T U p q)[(i + 1) % (p + q)]? = if i + 1 ≤ p then T[i + 1]? else U[i + 1 - p]? := by
  have p1 := h.p1
  have q1 := h.q1
  by_cases hn : i + 1 = p + q
  · rw [hn, Nat.mod_self, h.at (by omega), if_pos (by omega), if_neg (by omega), show p + q - p = q by omega, h.close]
  · rw [Nat.mod_eq_of_lt (by omega), h.at (by omega)]
    by_cases h1 : i + 1 < p
    · rw [if_pos h1, if_pos (by omega)]
    · rw [if_neg h1]
      by_cases h2 : i + 1 = p
      · rw [if_pos (by omega), h2, h.join, Nat.sub_self]
      · rw [if_neg (by omega)]
theorem Round.sides {T U : List α} {p q : Nat} (h : Round T U p q) (hT : Rises D K Seen T) (hU : Rises D (fun x => -K x) Seen U) {i : Nat} (hi : i < p + q) {u v : α} (e1 : (ring T U p q)[i]? = some u) (e2 : (ring T U p q)[(i + 1) % (p + q)]? = some v) {x : α} (hx : Seen x) : 0 ≤ D u v x := by
  rw [h.at hi] at e1
  rw [h.next hi] at e2
  by_cases hp : i < p
  · rw [if_pos hp] at e1
    rw [if_pos (by omega)] at e2
    exact hT.left i u v x e1 e2 hx
  · rw [if_neg hp] at e1
    rw [if_neg (by omega)] at e2
    exact hU.left (i - p) u v x e1 (by rw [show i - p + 1 = i + 1 - p by omega]; exact e2) hx
theorem Round.turns (hP : Pl D K) {T U : List α} {p q : Nat} (h : Round T U p q) (hT : Rises D K Seen T) (hU : Rises D (fun x => -K x) Seen U) (h3 : 3 ≤ p + q) {i : Nat} (hi : i < p + q) {a b c : α} (e1 : (ring T U p q)[i]? = some a) (e2 : (ring T U p q)[(i + 1) % (p + q)]? = some b) (e3 : (ring T U p q)[(i + 2) % (p + q)]? = some c) : 0 < D a b c := by
  have p1 := h.p1
  have q1 := h.q1
  have e3' : (ring T U p q)[((i + 1) % (p + q) + 1) % (p + q)]? = some c := by
    rw [Nat.mod_add_mod]; exact e3
  have hj : (i + 1) % (p + q) < p + q := Nat.mod_lt _ (by omega)
  rw [h.next hj] at e3'
  have e2' := e2
  rw [h.next hi] at e2'
  rw [h.at hi] at e1
  have get : ∀ {l : List α} {k : Nat}, k < l.length → ∃ z, l[k]? = some z := fun hk => ⟨_, List.getElem?_eq_getElem hk⟩
  by_cases hp : i + 1 < p
  · -- both in the way there
    rw [if_pos (by omega)] at e1 e2'
    rw [Nat.mod_eq_of_lt (by omega), if_pos (by omega)] at e3'
    exact hT.turns i a b c e1 e2' e3'
  · by_cases hp2 : i + 1 = p
    · -- where the way there ends
      rw [if_pos (by omega)] at e1 e2'
      rw [hp2, Nat.mod_eq_of_lt (by omega), if_neg (by omega), show p + 1 - p = 1 by omega] at e3'
      have e2U : U[0]? = some b := by rw [← h.join, ← hp2]; exact e2'
      refine hP.turn (Seen := Seen) (hT.rise i a b e1 e2') (by have := hU.rise 0 b c e2U e3'; omega) (fun x hx => hT.left i a b x e1 e2' hx) (fun x hx => hU.left 0 b c x e2U e3' hx) (hU.part c (List.mem_of_getElem? e3')) ?_
      by_cases hq : 2 ≤ q
      · obtain ⟨z, hz⟩ := get (l := U) (k := 2) (by rw [h.lenU]; omega)
        exact .inr ⟨z, hU.part z (List.mem_of_getElem? hz), hU.turns 0 b c z e2U e3' hz⟩
      · obtain ⟨z, hz⟩ := get (l := T) (k := i - 1) (by rw [h.lenT]; omega)
        exact .inl ⟨z, hT.part z (List.mem_of_getElem? hz), hT.turns (i - 1) z a b hz (by rw [show i - 1 + 1 = i by omega]; exact e1) (by rw [show i - 1 + 2 = i + 1 by omega]; exact e2')⟩
    · rw [if_neg (by omega)] at e1 e2'
      by_cases hn : i + 1 = p + q
      · -- where the way back ends
        rw [hn, Nat.mod_self, if_pos (by omega)] at e3'
        have e2T : T[0]? = some b := by rw [← h.close, show q = i + 1 - p by omega]; exact e2'
        have e2U : U[i - p + 1]? = some b := by rw [show i - p + 1 = i + 1 - p by omega]; exact e2'
        refine hP.neg.turn (Seen := Seen) (hU.rise (i - p) a b e1 e2U) (by have := hT.rise 0 b c e2T e3'; omega) (fun x hx => hU.left (i - p) a b x e1 e2U hx) (fun x hx => hT.left 0 b c x e2T e3' hx) (hT.part c (List.mem_of_getElem? e3')) ?_
        by_cases hq : 2 ≤ p
        · obtain ⟨z, hz⟩ := get (l := T) (k := 2) (by rw [h.lenT]; omega)
          exact .inr ⟨z, hT.part z (List.mem_of_getElem? hz), hT.turns 0 b c z e2T e3' hz⟩
        · obtain ⟨z, hz⟩ := get (l := U) (k := i - p - 1) (by rw [h.lenU]; omega)
          exact .inl ⟨z, hU.part z (List.mem_of_getElem? hz), hU.turns (i - p - 1) z a b hz (by rw [show i - p - 1 + 1 = i - p by omega]; exact e1) (by rw [show i - p - 1 + 2 = i - p + 1 by omega]; exact e2U)⟩
      · rw [Nat.mod_eq_of_lt (by omega), if_neg (by omega)] at e3'
        exact hU.turns (i - p) a b c e1 (by rw [show i - p + 1 = i + 1 - p by omega]; exact e2') (by rw [show i - p + 2 = i + 1 + 1 - p by omega]; exact e3')
end
end Go.Proofs.Ytgeoffpcmkofkaa
/- Which points are corners. (Pure.) -/
namespace Go.Proofs.Ytgeoffpcmkofkaa
section
variable {α : Type} {D : α → α → α → Int} {K : α → Int} {Seen : α → Prop}
/-- A point from which all others lie left of a way forward, none of them straight behind it, is one of the way there. -/
theorem corner_in (hP : Pl D K) (hA : Aff D K) {way : List α} (hw : WayOK D K Seen way) {x k : α} (hx : Seen x) (hk : K x < K k) (hF : ∀ j, Seen j → 0 ≤ D x k j) (back : ∀ j, Seen j → D x k j = 0 → ¬K j < K x) (inj : ∀ a, Seen a → K a = K x → a = x) : x ∈ way := by
  have ht : ∀ t ∈ way.head?, K x ≤ K t := by
    intro t e
    cases way with
    | nil => simp at e
    | cons t' l =>
      have : t' = t := by simpa using e
      subst this
      exact hw.top t' l rfl x hx
  rcases span hw.falls ht (fun m e => (hw.low m e x hx).1) hw.some (hw.left x hx) with ⟨m, e, e'⟩ | ⟨a, b, h1, h2, h3, h4, h5, h6⟩
  · have : m = x := inj m (hw.part m (by rw [e]; simp)) e'.symm
    rw [e, this]
    simp
  · by_cases ka : K a = K x
    · rw [← inj a (hw.part a h1) ka]; exact h1
    · by_cases kb : K b = K x
      · rw [← inj b (hw.part b h2) kb]; exact h2
      · exfalso
        have e := hA x k a b x
        rw [hP.same] at e
        have fa := hF a (hw.part a h1)
        have fb := hF b (hw.part b h2)
        have a2 := Int.mul_nonneg fb (show 0 ≤ K x - K a by omega)
        have a3 := Int.mul_nonneg h6 (show 0 ≤ K k - K x by omega)
        have z : D x k a = 0 := by
          rcases Int.lt_or_le 0 (D x k a) with hpos | hneg
          · have := Int.mul_pos hpos (show 0 < K b - K x by omega)
            omega
          · omega
        exact back a (hw.part a h1) z (by omega)
/-- A point of the way there, but its last, is such a point: towards the next one. -/
theorem in_corner (hP : Pl D K) {T : List α} (hT : Rises D K Seen T) (first : ∀ f, T[0]? = some f → ∀ j, Seen j → K f ≤ K j) {i : Nat} {x k : α} (e1 : T[i]? = some x) (e2 : T[i + 1]? = some k) : K x < K k ∧ (∀ j, Seen j → 0 ≤ D x k j) ∧ ∀ j, Seen j → D x k j = 0 → ¬K j < K x := by
  have hk := hT.rise i x k e1 e2
  refine ⟨hk, fun j hj => hT.left i x k j e1 e2 hj, fun j hj hz hlt => ?_⟩
  cases i with
  | zero =>
    have := first x e1 j hj
    omega
  | succ i =>
    have hlen : i < T.length := by
      have := (List.getElem?_eq_some_iff.1 e1).1
      omega
    have ea : T[i]? = some T[i] := List.getElem?_eq_getElem hlen
    have t := hT.turns i T[i] x k ea e1 e2
    have l := hT.left i T[i] x j ea e1 hj
    generalize T[i] = a at t l
    -- at x: D x a j * (K k - K x) = D x k j * (K a - K x) - D x k a * (K j - K x)
    have e := hP.pl x k a j
    rw [hz] at e
    have r1 := hP.swp a x j
    have r2 := hP.rot a x k
    have a1 := Int.mul_nonneg l (show 0 ≤ K k - K x by omega)
    have a2 := Int.mul_pos t (show 0 < K x - K j by omega)
    have e3 : D x a j * (K k - K x) = -(D a x j * (K k - K x)) := by rw [r1]; grind
    have e4 : 0 * (K a - K x) - D x k a * (K j - K x) = D a x k * (K x - K j) := by rw [r2]; grind
    omega
end
end Go.Proofs.Ytgeoffpcmkofkaa
/- The two ways of one list make a round. (Pure.) -/
namespace Go.Proofs.Ytgeoffpcmkofkaa
section
variable {α : Type} {D : α → α → α → Int} {K : α → Int} {Seen : α → Prop}
theorem WayOK.two {L : List α} (h : WayOK D K Seen L) {a b : α} (ha : Seen a) (hb : Seen b) (hab : K a < K b) : 2 ≤ L.length := by
  cases L with
  | nil => exact absurd rfl h.some
  | cons t l =>
    cases l with
    | cons u l => simp
    | nil =>
      have h1 := h.top t [] rfl b hb
      have h2 := (h.low t (by simp) a ha).1
      have h3 := h.low t (by simp) b hb
      omega
/-- The first of one is the last of the other. -/
theorem ends_meet {L U : List α} (h : WayOK D K Seen L) (hu : WayOK D (fun x => -K x) Seen U) : L.head? = U.getLast? := by
  cases L with
  | nil => exact absurd rfl h.some
  | cons t l =>
    cases hm : U.getLast? with
    | none => exact absurd (List.getLast?_eq_none_iff.1 hm) hu.some
    | some m =>
      have ht : Seen t := h.part t (by simp)
      have hsm : Seen m := hu.part m (List.mem_of_getLast? hm)
      have h1 := h.top t l rfl m hsm
      have h2 := hu.low m (by rw [hm]; rfl) t ht
      have : t = m := h2.2 (by have := h2.1; omega)
      rw [this]
      rfl
theorem round_of {L U : List α} (h : WayOK D K Seen L) (hu : WayOK D (fun x => -K x) Seen U) {a b : α} (ha : Seen a) (hb : Seen b) (hab : K a < K b) : Round L.reverse U.reverse (L.length - 1) (U.length - 1) := by
  have l2 := h.two ha hb hab
  have u2 := hu.two hb ha (by omega)
  have hu' : WayOK D (fun x => - -K x) Seen L := by
    have e : (fun x => - -K x) = K := by funext x; omega
    rw [e]; exact h
  have m1 := ends_meet h hu
  have m2 := ends_meet hu hu'
  refine ⟨by simp; omega, by simp; omega, by omega, by omega, ?_, ?_⟩
  · rw [List.getElem?_reverse (by omega), List.getElem?_reverse (by omega), show L.length - 1 - (L.length - 1) = 0 by omega, Nat.sub_zero, ← List.head?_eq_getElem?, m1, List.getLast?_eq_getElem?]
  · rw [List.getElem?_reverse (by omega), List.getElem?_reverse (by omega), show U.length - 1 - (U.length - 1) = 0 by omega, Nat.sub_zero, ← List.head?_eq_getElem?, m2, List.getLast?_eq_getElem?]
end
end Go.Proofs.Ytgeoffpcmkofkaa
/- The corner behind a corner is one alone. (Pure.) -/
namespace Go.Proofs.Ytgeoffpcmkofkaa
section
variable {α : Type} {D : α → α → α → Int} {K : α → Int} {Seen : α → Prop}
/-- From x towards k all lie to the left, none straight behind x. -/
structure Towards (D : α → α → α → Int) (K : α → Int) (Seen : α → Prop) (x k : α) : Prop where
  left : ∀ j, Seen j → 0 ≤ D x k j
  ahead : K x < K k → ∀ j, Seen j → D x k j = 0 → ¬K j < K x
  backward : K k < K x → ∀ j, Seen j → D x k j = 0 → ¬K x < K j
  apart : K x ≠ K k
theorem no_between (hP : Pl D K) (hA : Aff D K) {x k a b : α} (h : Towards D K Seen x k) (ha : Seen a) (hb : Seen b) (k1 : K a < K x) (k2 : K x < K b) (hz : D a b x = 0) : False := by
  have e := hA x k a b x
  rw [hP.same, hz] at e
  have fa := h.left a ha
  have fb := h.left b hb
  have a1 := Int.mul_nonneg fa (show 0 ≤ K b - K x by omega)
  have a2 := Int.mul_nonneg fb (show 0 ≤ K x - K a by omega)
  have z1 : D x k a = 0 := by
    rcases Int.lt_or_le 0 (D x k a) with hpos | hneg
    · have := Int.mul_pos hpos (show 0 < K b - K x by omega)
      omega
    · omega
  have z2 : D x k b = 0 := by
    rcases Int.lt_or_le 0 (D x k b) with hpos | hneg
    · have := Int.mul_pos hpos (show 0 < K x - K a by omega)
      omega
    · omega
  rcases Int.lt_or_le (K x) (K k) with hk | hk
  · exact h.ahead hk a ha z1 k1
  · exact h.backward (by have := h.apart; omega) b hb z2 k2
/-- Two corners that both have all at their left, seen from a third, are one. -/
theorem next_one (hP : Pl D K) (hA : Aff D K) {x k k' e e' : α} (hx : Seen x) (hk : Seen k) (hk' : Seen k') (ht : Towards D K Seen x k) (hc : Towards D K Seen k e) (hc' : Towards D K Seen k' e') (h' : 0 ≤ D x k' k) (ne : K k' ≠ K x) : K k' = K k := by
  have h1 := ht.left k' hk'
  have r1 := hP.swp x k k'
  have r2 := hP.rot k x k'
  have hz : D x k k' = 0 := by
    have := hP.rot k' k x
    have := hP.rot x k' k
    have := hP.rot k x k'
    omega
  have hz' : D x k' k = 0 := by
    have := hP.rot k' k x
    have := hP.rot x k' k
    have := hP.swp k' k x
    have := hP.rot x k k'
    omega
  have hs : D k x k' = 0 := by have := hP.swp x k k'; omega
  have hs' : D k' x k = 0 := by have := hP.swp x k' k; omega
  rcases Int.lt_or_le (K x) (K k) with hk1 | hk1
  · have b1 := ht.ahead hk1 k' hk' hz
    rcases Int.lt_trichotomy (K k') (K k) with hq | hq | hq
    · exact (no_between hP hA hc' hx hk (by omega) hq (by have := hP.rot x k k'; omega)).elim
    · exact hq
    · exact (no_between hP hA hc hx hk' hk1 hq hz').elim
  · have hk2 : K k < K x := by have := ht.apart; omega
    have b1 := ht.backward hk2 k' hk' hz
    rcases Int.lt_trichotomy (K k') (K k) with hq | hq | hq
    · exact (no_between hP hA hc hk' hx hq hk2 hs').elim
    · exact hq
    · exact (no_between hP hA hc' hk hx hq (by omega) hs).elim
end
end Go.Proofs.Ytgeoffpcmkofkaa
/- The plane of the program's points, and the list of points in their order. -/
namespace Go.Proofs.Ytgeoffpcmkofkaa
open Go Go.RowKit Fl

theorem plDK : Pl D K where
  rot a b c := by simp only [D, det]; grind
  swp a b c := by simp only [D, det]; grind
  pl s t p x := by simp only [D, det, K]; grind
theorem affDK : Aff D K := fun u v a b x => by simp only [D, det, K]; grind

/-- The points of a list in their order, each once. -/
def disL (l : Pts) : Pts := ddN (l.mergeSort fun x y => decide (K x ≤ K y)) l.length
theorem disL_is {l : Pts} (hc : ∀ x ∈ l, CdP x) : IsDis l (disL l) := by
  have hp : (l.mergeSort fun x y => decide (K x ≤ K y)).Perm l := List.mergeSort_perm l _
  have hs : (l.mergeSort fun x y => decide (K x ≤ K y)).Pairwise fun x y => K x ≤ K y := by
    have := List.pairwise_mergeSort (le := fun x y => decide (K x ≤ K y)) (fun a b c h1 h2 => by simp at *; omega) (fun a b => by simp; omega) l
    exact this.imp fun h => by simpa using h
  have hl := hp.length_eq
  have h := ddN_dis hs (fun x hx y hy hk => K_inj (hc x (hp.mem_iff.1 hx)) (hc y (hp.mem_iff.1 hy)) hk) l.length (by omega)
  refine ⟨h.1, fun x => ?_, ddN_le _ _⟩
  unfold disL
  rw [h.2, List.take_of_length_le (by omega)]
  exact hp.mem_iff
end Go.Proofs.Ytgeoffpcmkofkaa
