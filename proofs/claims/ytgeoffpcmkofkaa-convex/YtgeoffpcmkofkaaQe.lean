/- The walk of hull's 'leftTurns'. -/
import Derived.Deep.AppendLies
import Derived.Test.YtgeoffpcmkofkaaQd
import Derived.Test.YtgeoffpcmkofkaaHa
namespace Go.Proofs.Ytgeoffpcmkofkaa
open Go.RowKit Fl Go.Lib
set_option maxRecDepth 100000
attribute [local go_sem ↓] Go.wp_at_zero Go.wp_at_succ

theorem wayOf_succ {l : Pts} {k : Nat} {p : Pt} (h : l[k]? = some p) : wayOf D (l.take (k + 1)) = p :: pops D p (wayOf D (l.take k)) := by
  rw [List.take_add_one, h]
  simp [wayOf, List.foldl_append]
theorem pops_sub (p : Pt) : ∀ (l : Pts), ∀ x ∈ pops D p l, x ∈ l
  | [] => by simp [pops]
  | [a] => by simp [pops]
  | t :: s :: l => by
    intro x hx
    rw [pops] at hx
    split at hx
    · exact List.mem_cons_of_mem _ (pops_sub p (s :: l) x hx)
    · exact hx
theorem wayOf_sub : ∀ (k : Nat) (l : Pts), ∀ x ∈ wayOf D (l.take k), x ∈ l
  | 0, l => by simp [wayOf]
  | k + 1, l => by
    intro x hx
    cases h : l[k]? with
    | none =>
      rw [List.take_add_one, h] at hx
      exact wayOf_sub k l x (by simpa using hx)
    | some p =>
      rw [wayOf_succ h] at hx
      rcases List.mem_cons.1 hx with rfl | hx
      · exact List.mem_of_getElem? h
      · exact wayOf_sub k l x (pops_sub _ _ x hx)
def lenV : Value → Nat
  | .slice _ n _ => n
  | _ => 0
/-- Where the loops stand. -/
structure LT (w wr : World) (v : Value) (t : Pts) (k : Nat) : Prop where
  new : New w wr
  own : OwnP wr w.heap.size v t
  len : t.length ≤ k
  cd : ∀ x ∈ t, CdP x
theorem LT.box {w wr : World} {v : Value} {t : Pts} {k : Nat} (h : LT w wr v t k) (o : Obj) : LT w (wr.alloc o) v t k := ⟨h.new.alloc' _, h.own.new (New.alloc _ _), h.len, h.cd⟩
theorem LT.go {w wr w2 : World} {v : Value} {t : Pts} {k : Nat} (h : LT w wr v t k) (hn : New wr w2) : LT w w2 v t k := ⟨h.new.trans' hn, h.own.new hn, h.len, h.cd⟩
theorem LT.cut {w wr : World} {g cap k : Nat} {t : Pts} {p : Pt} (h : LT w wr (.slice (some ⟨g, 0, none⟩) (t ++ [p]).length cap) (t ++ [p]) k) : LT w wr (.slice (some ⟨g, 0, none⟩) t.length cap) t k := by
  refine ⟨h.new, ?_, by have := h.len; simp at this; omega, fun x hx => h.cd x (by simp [hx])⟩
  have := own_shrink h.own (c := t.length) (by simp)
  unfold OwnP
  rw [List.flatMap_append, List.take_append_of_le_length (by rw [flat_length lenP]; omega), List.take_of_length_le (by rw [flat_length lenP]; omega)] at this
  exact this


theorem sgn_le {x : Int} : sgn x ≤ 0 ↔ x ≤ 0 := by rcases sgn_cases x with h | h | h <;> omega
theorem two_last {s : Pts} (h : 2 ≤ s.length) : ∃ q a b, s = q ++ [a, b] := by
  rcases List.eq_nil_or_concat s with rfl | ⟨r, b, rfl⟩
  · simp at h
  · rcases List.eq_nil_or_concat r with rfl | ⟨q, a, rfl⟩
    · simp at h
    · exact ⟨q, a, b, by simp⟩
theorem last_cells {w wr : World} {g c m k : Nat} {q : Pts} {a b : Pt} (hm : m = q.length) (h : LT w wr (.slice (some ⟨g, 0, none⟩) (m + 2) c) (q ++ [a, b]) k) :
    wr.cell? ⟨g, m * 2, none⟩ = some (.int .i64 a.1) ∧ wr.cell? ⟨g, m * 2 + 1, none⟩ = some (.int .i64 a.2) ∧ wr.cell? ⟨g, (m + 1) * 2, none⟩ = some (.int .i64 b.1) ∧ wr.cell? ⟨g, (m + 1) * 2 + 1, none⟩ = some (.int .i64 b.2) := by
  have e : m + 2 = (q ++ [a, b]).length := by simp [hm]
  have h0 := h.own
  rw [e] at h0
  have h1 := h0.cell (i := m) (by omega)
  have h2 := h0.cell (i := m + 1) (by omega)
  have e1 : (q ++ [a, b])[m]'(by omega) = a := by subst hm; simp
  have e2 : (q ++ [a, b])[m + 1]'(by omega) = b := by subst hm; simp [List.getElem_append_right]
  rw [e1] at h1
  rw [e2] at h2
  exact ⟨h1.1, h1.2, h2.1, h2.2⟩
theorem pops_short (p : Pt) {r : Pts} (h : r.length < 2) : pops D p r = r := by
  match r, h with
  | [], _ => rfl
  | [a], _ => rfl
theorem left_step {w w2 : World} {v : Value} {s l : Pts} {k : Nat} {p : Pt} (hs : LT w w2 v s k) (hk : k < l.length) (hl : l.length ≤ 1000000) (hC : CdP p ∧ l[k]? = some p) (he : s.reverse = pops D p (wayOf D (l.take k))) :
    ∃ vk wk, (Builtin.append_ #[28, 28] 28 #[v, .slice (some ⟨w2.heap.size, 0, none⟩) 1 1]).run Try.prog (w2.alloc (.cells #[.int .i64 p.1, .int .i64 p.2] 23)) = .ok vk wk ∧ Hid (LT w wk vk (s ++ [p]) (k + 1) ∧ (s ++ [p]).reverse = wayOf D (l.take (k + 1))) := by
  obtain ⟨i0, hi0, hz0, hz1, hz2⟩ := info_parts Try.info23
  have h1 := hs.len
  obtain ⟨vk, wk, k1, k2, k3, k4⟩ := run_append_own (P := Try.prog) (w2.alloc (.cells #[.int .i64 p.1, .int .i64 p.2] 23)) w.heap.size 28 28 23 i0 _ 2 16 Try.underlying28 hi0 hz0 hz1 hz2 rfl (by omega) v s.length (s.flatMap encP) (hs.own.new (New.alloc _ _)) ⟨w2.heap.size, 0, none⟩ 1 1 [.int .i64 p.1, .int .i64 p.2] rfl
    (World.news_of_block (cs := #[.int .i64 p.1, .int .i64 p.2]) (t := 23) (fr := (0, 0)) (heap_alloc_new w2 _)) (by simp [Value.oneCell']) (by unfold maxLen; omega) (by omega) (by have := hs.new.size; simp; omega)
  refine ⟨vk, wk, k1, ⟨(hs.new.alloc' _).trans k3 fun g hg => ?_, ?_, by simp; omega, fun x hx => ?_⟩, ?_⟩
  · rcases Nat.lt_or_ge g w.heap.size with h1 | h1
    · exact absurd hg.symm (own_ne hs.own h1)
    · exact h1
  · unfold OwnP
    rw [List.flatMap_append, List.length_append]
    exact k2
  · rcases List.mem_append.1 hx with h | h
    · exact hs.cd x h
    · rw [List.mem_singleton.1 h]; exact hC.1
  · rw [wayOf_succ hC.2, ← he]
    simp

set_option maxHeartbeats 1600000 in
theorem left_any (g cap : Nat) (l : Pts) (w : World) (hp : PtsAt w g 0 l) (hg : g < w.heap.size) (hl : l.length ≤ 1000000) (hc : ∀ x ∈ l, CdP x) :
    Calls Try.prog 87 #[.slice (some ⟨g, 0, none⟩) l.length cap] w fun e w' => ∃ v t, e = .returned v ∧ Hid (t.reverse = wayOf D l ∧ New w w' ∧ OwnP w' w.heap.size v t) := by
  have HP : Hid (PtsAt w g 0 l ∧ g < w.heap.size ∧ ∀ x ∈ l, CdP x) := ⟨hp, hg, hc⟩
  clear hp hg hc
  go_enter Try.func87, Try.ntmps87
  go_wp2_with fail
  go_loopw [3, 8] (fun v i wr => ∃ (k : Nat) (t : Pts), i = .int .i64 (k : Int) ∧ k ≤ l.length ∧ Hid (LT w wr v t k ∧ t.reverse = wayOf D (l.take k))) (fun _ i _ => l.length - (intOf i).toNat)
  case atStart => exact ⟨0, [], rfl, Nat.zero_le _, ⟨New.refl _, World.ownsRow_nil _ _ _ _, Nat.zero_le _, by simp⟩, rfl⟩
  case round =>
    obtain ⟨k, t, rfl, hk, H⟩ := hrel
    rcases Nat.lt_or_ge k l.length with hk' | hk'
    · have hc := HP.out.1.kept HP.out.2.1 H.out.1.new k hk'
      rw [Nat.zero_add] at hc
      obtain ⟨p, hp⟩ : ∃ p, p = l[k] := ⟨_, rfl⟩
      have HC : Hid (CdP p ∧ l[k]? = some p) := ⟨by rw [hp]; exact HP.out.2.2 _ (List.getElem_mem hk'), by rw [hp]; exact List.getElem?_eq_getElem hk'⟩
      rw [← hp] at hc
      obtain ⟨x0, x1⟩ := hc
      clear hp
      have i0 : (0 : Int) ≤ (k : Int) := by omega
      have i1 : (k : Int) < (l.length : Int) := by omega
      have hw1 : IntKind.i64.wrap ((k : Int) + 1) = (k : Int) + 1 := by rw [IntKind.wrap_i64]; omega
      obtain ⟨wo, rfl⟩ : ∃ wo, wo = wr := ⟨_, rfl⟩
      have HB : Hid (New (wo.alloc (.cells #[.int .i64 p.1, .int .i64 p.2] 23)) (wo.alloc (.cells #[.int .i64 p.1, .int .i64 p.2] 23))) := New.refl _
      have HL : Hid (LT w (wo.alloc (.cells #[.int .i64 p.1, .int .i64 p.2] 23)) u3 t k ∧ t.reverse = wayOf D (l.take k)) := ⟨H.out.1.box _, H.out.2⟩
      have HX : Hid (∀ w2, New (wo.alloc (.cells #[.int .i64 p.1, .int .i64 p.2] 23)) w2 → w2.cell? ⟨wo.heap.size, 0, none⟩ = some (.int .i64 p.1) ∧ w2.cell? ⟨wo.heap.size, 1, none⟩ = some (.int .i64 p.2)) := fun w2 h => ⟨h.kept' (by go_simp), h.kept' (by go_simp)⟩
      go_wp2_with fail
      clear x0 x1 H
      go_loopw [3] (fun v w2 => ∃ (s : Pts), Hid (LT w w2 v s k ∧ pops D p s.reverse = pops D p (wayOf D (l.take k)) ∧ New (wo.alloc (.cells #[.int .i64 p.1, .int .i64 p.2] 23)) w2)) (fun v _ => lenV v)
      case atStart => exact ⟨t, HL.out.1, by rw [HL.out.2], HB.out⟩
      case round =>
        obtain ⟨s, HI⟩ := hrel
        obtain ⟨ad, c2, hv⟩ : ∃ ad c2, u3 = .slice ad s.length c2 := by
          rcases HI.out.1.own.form with ⟨e1, e2⟩ | ⟨g2, c2, e1, _⟩
          · exact ⟨none, 0, by rw [e1, e2]; rfl⟩
          · exact ⟨_, c2, e1⟩
        rcases Nat.lt_or_ge s.length 2 with h2 | h2
        · subst hv
          have g2 : decide (2 ≤ (s.length : Int)) = false := by simp; omega
          have g3 : decide (2 ≤ s.length) = false := by simp; omega
          go_wp2_with fail
          go_quiet (fail)
          have HD : Hid (LT w (wr.drewN nq) (.slice ad s.length c2) s k) := HI.out.1.go ((New.refl _).drewN nq)
          obtain ⟨y0, y1⟩ := HX.out (wr.drewN nq) (HI.out.2.2.drewN nq)
          have HE : Hid (s.reverse = pops D p (wayOf D (l.take k))) := by rw [Hid, ← HI.out.2.1, pops_short _ (by simpa using h2)]
          obtain ⟨vk, wk, k1, R⟩ := left_step HD.out hk' hl HC.out HE.out
          generalize wr.drewN nq = V at *
          go_wp2_with (first | (at_builtin; refine Go.Lib.wpList_append_run _ rfl _ _ 28 28 rfl _ _ rfl rfl vk wk k1 ?_) | go_in)
          go_roundw
          case rel => exact ⟨k + 1, s ++ [p], by go_num, hk', R⟩
          case measure => simp [intOf]; omega
        · obtain ⟨q, a, b, rfl⟩ := two_last h2
          clear hv h2 ad c2
          rcases HI.out.1.own.form with ⟨e1, e2⟩ | ⟨g2, c2, e1, _, hg2, hlc, _⟩
          · simp at e2
          · obtain ⟨m, hm⟩ : ∃ m, m = q.length := ⟨_, rfl⟩
            have el : (q ++ [a, b]).length = m + 2 := by simp [hm]
            rw [el] at e1 hlc
            subst e1
            have HA : Hid (LT w wr (.slice (some ⟨g2, 0, none⟩) (m + 2) c2) (q ++ [a, b]) k ∧ CdP a ∧ CdP b ∧ g2 < wr.heap.size) := ⟨HI.out.1, HI.out.1.cd a (by simp), HI.out.1.cd b (by simp), hg2⟩
            obtain ⟨a0, a1, b0, b1⟩ := last_cells hm HI.out.1
            obtain ⟨y0, y1⟩ := HX.out wr HI.out.2.2
            have HW : Hid (New wr wr.drew) := (New.refl _).dr
            have HM : Hid (m = q.length) := hm
            have ws : ((m + 2 : Nat) : Int) = (m : Int) + 2 := by omega
            have b1' : (0 : Int) ≤ (m : Int) := by omega
            have b2' : (m : Int) < (m : Int) + 2 := by omega
            have b3' : (0 : Int) ≤ (m : Int) + 1 := by omega
            have b4' : (m : Int) + 1 < (m : Int) + 2 := by omega
            have b5' : ((m : Int) + 1).toNat = m + 1 := by omega
            have w0 : IntKind.i64.wrap (m : Int) = (m : Int) := by rw [IntKind.wrap_i64]; have := HI.out.1.len; simp at this; omega
            have gd : decide (2 ≤ (m : Int) + 2) = true := by simp; omega
            have w1 : IntKind.i64.wrap ((m : Int) + 2 - 2) = (m : Int) := by rw [IntKind.wrap_i64]; have := HI.out.1.len; simp at this; omega
            have w2 : IntKind.i64.wrap ((m : Int) + 2 - 1) = (m : Int) + 1 := by rw [IntKind.wrap_i64]; have := HI.out.1.len; simp at this; omega
            have KS : Hid (∀ V, New wr V → V.cell? ⟨g2, m * 2, none⟩ = some (.int .i64 a.1) ∧ V.cell? ⟨g2, m * 2 + 1, none⟩ = some (.int .i64 a.2) ∧ V.cell? ⟨g2, (m + 1) * 2, none⟩ = some (.int .i64 b.1) ∧ V.cell? ⟨g2, (m + 1) * 2 + 1, none⟩ = some (.int .i64 b.2) ∧ V.cell? ⟨wo.heap.size, 0, none⟩ = some (.int .i64 p.1) ∧ V.cell? ⟨wo.heap.size, 1, none⟩ = some (.int .i64 p.2)) := fun V h => ⟨h.kept' a0, h.kept' a1, h.kept' b0, h.kept' b1, h.kept' y0, h.kept' y1⟩
            clear hm el
            go_wp2_with fail
            go_region_held3 (fun V => V.cell? ⟨g2, m * 2, none⟩ = some (.int .i64 a.1) ∧ V.cell? ⟨g2, m * 2 + 1, none⟩ = some (.int .i64 a.2) ∧ V.cell? ⟨g2, (m + 1) * 2, none⟩ = some (.int .i64 b.1) ∧ V.cell? ⟨g2, (m + 1) * 2 + 1, none⟩ = some (.int .i64 b.2) ∧ V.cell? ⟨wo.heap.size, 0, none⟩ = some (.int .i64 p.1) ∧ V.cell? ⟨wo.heap.size, 1, none⟩ = some (.int .i64 p.2))
              (first | exact KS.out _ HW.out)
              (first | (go_at_call 37; refine (of_any a.1 a.2 b.1 b.2 p.1 p.2 _ HA.out.2.1.1 HA.out.2.1.2 HA.out.2.2.1.1 HA.out.2.2.1.2 HC.out.1.1 HC.out.1.2).mono ?_; rintro e w3 ⟨rfl, H3⟩; replace HW : Hid (New wr w3) := HW.out.trans' H3.out; clear H3))
            have H3 : Hid (LT w w3 (.slice (some ⟨g2, 0, none⟩) (m + 2) c2) (q ++ [a, b]) k ∧ New (wo.alloc (.cells #[.int .i64 p.1, .int .i64 p.2] 23)) w3) := ⟨HA.out.1.go HW.out, HI.out.2.2.trans' HW.out⟩
            obtain ⟨z0, z1⟩ := HX.out w3 H3.out.2
            by_cases hd : sgn (det a.1 a.2 b.1 b.2 p.1 p.2) ≤ 0
            · have HD : Hid (D a b p ≤ 0) := by
                have := hd
                rw [sgn_le] at this
                exact this
              have HN : Hid (LT w w3 (.slice (some ⟨g2, 0, none⟩) (m + 1) c2) (q ++ [a]) k ∧ pops D p (q ++ [a]).reverse = pops D p (wayOf D (l.take k))) := by
                refine ⟨?_, ?_⟩
                · have h5 := H3.out.1
                  have e1 : q ++ [a, b] = (q ++ [a]) ++ [b] := by simp
                  have e2 : m + 2 = ((q ++ [a]) ++ [b]).length := by simp [HM.out]
                  have e3 : m + 1 = (q ++ [a]).length := by simp [HM.out]
                  rw [e1, e2] at h5
                  rw [e3]
                  exact h5.cut
                · rw [← HI.out.2.1]
                  have e : (q ++ [a, b]).reverse = b :: a :: q.reverse := by simp
                  rw [e, pops, if_pos HD.out]
                  simp
              clear a0 a1 b0 b1 y0 y1 z0 z1
              go_wp2_with fail
              go_roundw
              case rel => exact ⟨q ++ [a], HN.out.1, HN.out.2, H3.out.2⟩
              case measure => simp [lenV]
            · have HD : Hid (¬D a b p ≤ 0) := fun h => hd (sgn_le.2 h)
              have HE : Hid ((q ++ [a, b]).reverse = pops D p (wayOf D (l.take k))) := by
                rw [Hid, ← HI.out.2.1]
                have e : (q ++ [a, b]).reverse = b :: a :: q.reverse := by simp
                rw [e, pops, if_neg HD.out]
              obtain ⟨vk, wk, k1, R⟩ := left_step H3.out.1 hk' hl HC.out HE.out
              clear a0 a1 b0 b1 y0 y1
              go_wp2_with (first | (at_builtin; refine Go.Lib.wpList_append_run _ rfl _ _ 28 28 rfl _ _ rfl rfl vk wk k1 ?_) | go_in)
              go_roundw
              case rel => exact ⟨k + 1, q ++ [a, b] ++ [p], by go_num, hk', R⟩
              case measure => simp [intOf]; omega
    · have e : k = l.length := by omega
      subst e
      go_wp2_with fail
      go_ret
      exact ⟨_, t, rfl, by rw [H.out.2, List.take_length], H.out.1.new, H.out.1.own⟩
end Go.Proofs.Ytgeoffpcmkofkaa
