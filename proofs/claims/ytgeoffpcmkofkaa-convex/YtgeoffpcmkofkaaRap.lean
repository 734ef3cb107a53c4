/- Qe; Qh: texts laid into one. -/
import Derived.Deep.AppendLies
import Derived.Test.YtgeoffpcmkofkaaRao
import Derived.Test.YtgeoffpcmkofkaaRaa
/- The walk of hull's 'leftTurns'. -/
namespace Go.Proofs.Ytgeoffpcmkofkaa
open Go.RowKit Fl Go.Lib
set_option maxRecDepth 100000
attribute [local go_sem ↓] Go.wp_at_zero Go.wp_at_succ

theorem wayOf_succ {l : Pts} {k : Nat} {p : Pt} (h : l[k]? = some p) : wayOf D (l.take (k + 1)) = p :: pops D p (wayOf D (l.take k)) := by
  rw [List.take_add_one, h]
  simp [wayOf, List.foldl_append]
theorem pops_sub (p : Pt) : ∀ (l : Pts), ∀ x ∈ pops D p l, x ∈ l
  | [] => by simp [pops]
  | [a] => by simp [pops]
  | t :: s :: l => by
    intro x hx
    rw [pops] at hx
    split at hx
    · exact List.mem_cons_of_mem _ (pops_sub p (s :: l) x hx)
    · exact hx
theorem wayOf_sub : ∀ (k : Nat) (l : Pts), ∀ x ∈ wayOf D (l.take k), x ∈ l
  | 0, l => by simp [wayOf]
  | k + 1, l => by
    intro x hx
    cases h : l[k]? with
    | none =>
      rw [List.take_add_one, h] at hx
      exact wayOf_sub k l x (by simpa using hx)
    | some p =>
      rw [wayOf_succ h] at hx
      rcases List.mem_cons.1 hx with rfl | hx
      · exact List.mem_of_getElem? h
      · exact wayOf_sub k l x (pops_sub _ _ x hx)
def lenV : Value → Nat
  | .slice _ n _ => n
  | _ => 0
/-- Where the loops stand. -/
structure LT (w wr : World) (v : Value) (t : Pts) (k : Nat) : Prop where
  new : New w wr
  own : OwnP wr w.heap.size v t
  len : t.length ≤ k
  cd : ∀ x ∈ t, CdP x
theorem LT.box {w wr : World} {v : Value} {t : Pts} {k : Nat} (h : LT w wr v t k) (o : Obj) : LT w (wr.alloc o) v t k := ⟨h.new.alloc' _, h.own.new (New.alloc _ _), h.len, h.cd⟩
theorem LT.go {w wr w2 : World} {v : Value} {t : Pts} {k : Nat} (h : LT w wr v t k) (hn : New wr w2) : LT w w2 v t k := ⟨h.new.trans' hn, h.own.new hn, h.len, h.cd⟩
theorem LT.cut {w wr : World} {g cap k : Nat} {t : Pts} {p : Pt} (h : LT w wr (.slice (some ⟨g, 0, none⟩) (t ++ [p]).length cap) (t ++ [p]) k) : LT w wr (.slice (some ⟨g, 0, none⟩) t.length cap) t k := by
  refine ⟨h.new, ?_, by have := h.len; simp at this; omega, fun x hx => h.cd x (by simp [hx])⟩
  have := own_shrink h.own (c := t.length) (by simp)
  unfold OwnP
  rw [List.flatMap_append, List.take_append_of_le_length (by rw [flat_length lenP]; omega), List.take_of_length_le (by rw [flat_length lenP]; omega)] at this
  exact this


theorem sgn_le {x : Int} : sgn x ≤ 0 ↔ x ≤ 0 := by rcases sgn_cases x with h | h | h <;> omega
theorem two_last {s : Pts} (h : 2 ≤ s.length) : ∃ q a b, s = q ++ [a, b] := by
  rcases List.eq_nil_or_concat s with rfl | ⟨r, b, rfl⟩
  · simp at h
  · rcases List.eq_nil_or_concat r with rfl | ⟨q, a, rfl⟩
    · simp at h
    · exact ⟨q, a, b, by simp⟩
theorem last_cells {w wr : World} {g c m k : Nat} {q : Pts} {a b : Pt} (hm : m = q.length) (h : LT w wr (.slice (some ⟨g, 0, none⟩) (m + 2) c) (q ++ [a, b]) k) :
    wr.cell? ⟨g, m * 2, none⟩ = some (.int .i64 a.1) ∧ wr.cell? ⟨g, m * 2 + 1, none⟩ = some (.int .i64 a.2) ∧ wr.cell? ⟨g, (m + 1) * 2, none⟩ = some (.int .i64 b.1) ∧ wr.cell? ⟨g, (m + 1) * 2 + 1, none⟩ = some (.int .i64 b.2) := by
  have e : m + 2 = (q ++ [a, b]).length := by simp [hm]
  have h0 := h.own
  rw [e] at h0
  have h1 := h0.cell (i := m) (by omega)
  have h2 := h0.cell (i := m + 1) (by omega)
  have e1 : (q ++ [a, b])[m]'(by omega) = a := by subst hm; simp
  have e2 : (q ++ [a, b])[m + 1]'(by omega) = b := by subst hm; simp [List.getElem_append_right]
  rw [e1] at h1
  rw [e2] at h2
  exact ⟨h1.1, h1.2, h2.1, h2.2⟩
theorem pops_short (p : Pt) {r : Pts} (h : r.length < 2) : pops D p r = r := by
  match r, h with
  | [], _ => rfl
  | [a], _ => rfl
theorem left_step {w w2 : World} {v : Value} {s l : Pts} {k : Nat} {p : Pt} (hs : LT w w2 v s k) (hk : k < l.length) (hl : l.length ≤ 1000000) (hC : CdP p ∧ l[k]? = some p) (he : s.reverse = pops D p (wayOf D (l.take k))) :
    ∃ vk wk, (Builtin.append_ #[28, 28] 28 #[v, .slice (some ⟨w2.heap.size, 0, none⟩) 1 1]).run Try.prog (w2.alloc (.cells #[.int .i64 p.1, .int .i64 p.2] 23)) = .ok vk wk ∧ Hid (LT w wk vk (s ++ [p]) (k + 1) ∧ (s ++ [p]).reverse = wayOf D (l.take (k + 1))) := by
  obtain ⟨i0, hi0, hz0, hz1, hz2⟩ := info_parts Try.info23
  have h1 := hs.len
  obtain ⟨vk, wk, k1, k2, k3, k4⟩ := run_append_own (P := Try.prog) (w2.alloc (.cells #[.int .i64 p.1, .int .i64 p.2] 23)) w.heap.size 28 28 23 i0 _ 2 16 Try.underlying28 hi0 hz0 hz1 hz2 rfl (by omega) v s.length (s.flatMap encP) (hs.own.new (New.alloc _ _)) ⟨w2.heap.size, 0, none⟩ 1 1 [.int .i64 p.1, .int .i64 p.2] rfl
    (World.news_of_block (cs := #[.int .i64 p.1, .int .i64 p.2]) (t := 23) (fr := (0, 0)) (heap_alloc_new w2 _)) (by simp [Value.oneCell']) (by unfold maxLen; omega) (by omega) (by have := hs.new.size; simp; omega)
  refine ⟨vk, wk, k1, ⟨(hs.new.alloc' _).trans k3 fun g hg => ?_, ?_, by simp; omega, fun x hx => ?_⟩, ?_⟩
  · rcases Nat.lt_or_ge g w.heap.size with h1 | h1
    · exact absurd hg.symm (own_ne hs.own h1)
    · exact h1
  · unfold OwnP
    rw [List.flatMap_append, List.length_append]
    exact k2
  · rcases List.mem_append.1 hx with h | h
    · exact hs.cd x h
    · rw [List.mem_singleton.1 h]; exact hC.1
  · rw [wayOf_succ hC.2, ← he]
    simp

set_option maxHeartbeats 1600000 in
theorem left_any (g cap : Nat) (l : Pts) (w : World) (hp : PtsAt w g 0 l) (hg : g < w.heap.size) (hl : l.length ≤ 1000000) (hc : ∀ x ∈ l, CdP x) :
    Calls Try.prog 87 #[.slice (some ⟨g, 0, none⟩) l.length cap] w fun e w' => ∃ v t, e = .returned v ∧ Hid (t.reverse = wayOf D l ∧ New w w' ∧ OwnP w' w.heap.size v t) := by
  have HP : Hid (PtsAt w g 0 l ∧ g < w.heap.size ∧ ∀ x ∈ l, CdP x) := ⟨hp, hg, hc⟩
  clear hp hg hc
  go_enter Try.func87, Try.ntmps87
  go_wp2_with fail
  go_loopw [3, 8] (fun v i wr => ∃ (k : Nat) (t : Pts), i = .int .i64 (k : Int) ∧ k ≤ l.length ∧ Hid (LT w wr v t k ∧ t.reverse = wayOf D (l.take k))) (fun _ i _ => l.length - (intOf i).toNat)
  case atStart => exact ⟨0, [], rfl, Nat.zero_le _, ⟨New.refl _, World.ownsRow_nil _ _ _ _, Nat.zero_le _, by simp⟩, rfl⟩
  case round =>
    obtain ⟨k, t, rfl, hk, H⟩ := hrel
    rcases Nat.lt_or_ge k l.length with hk' | hk'
    · have hc := HP.out.1.kept HP.out.2.1 H.out.1.new k hk'
      rw [Nat.zero_add] at hc
      obtain ⟨p, hp⟩ : ∃ p, p = l[k] := ⟨_, rfl⟩
      have HC : Hid (CdP p ∧ l[k]? = some p) := ⟨by rw [hp]; exact HP.out.2.2 _ (List.getElem_mem hk'), by rw [hp]; exact List.getElem?_eq_getElem hk'⟩
      rw [← hp] at hc
      obtain ⟨x0, x1⟩ := hc
      clear hp
      have i0 : (0 : Int) ≤ (k : Int) := by omega
      have i1 : (k : Int) < (l.length : Int) := by omega
      have hw1 : IntKind.i64.wrap ((k : Int) + 1) = (k : Int) + 1 := by rw [IntKind.wrap_i64]; omega
      obtain ⟨wo, rfl⟩ : ∃ wo, wo = wr := ⟨_, rfl⟩
      have HB : Hid (New (wo.alloc (.cells #[.int .i64 p.1, .int .i64 p.2] 23)) (wo.alloc (.cells #[.int .i64 p.1, .int .i64 p.2] 23))) := New.refl _
      have HL : Hid (LT w (wo.alloc (.cells #[.int .i64 p.1, .int .i64 p.2] 23)) u3 t k ∧ t.reverse = wayOf D (l.take k)) := ⟨H.out.1.box _, H.out.2⟩
      have HX : Hid (∀ w2, New (wo.alloc (.cells #[.int .i64 p.1, .int .i64 p.2] 23)) w2 → w2.cell? ⟨wo.heap.size, 0, none⟩ = some (.int .i64 p.1) ∧ w2.cell? ⟨wo.heap.size, 1, none⟩ = some (.int .i64 p.2)) := fun w2 h => ⟨h.kept' (by go_simp), h.kept' (by go_simp)⟩
      go_wp2_with fail
      clear x0 x1 H
      go_loopw [3] (fun v w2 => ∃ (s : Pts), Hid (LT w w2 v s k ∧ pops D p s.reverse = pops D p (wayOf D (l.take k)) ∧ New (wo.alloc (.cells #[.int .i64 p.1, .int .i64 p.2] 23)) w2)) (fun v _ => lenV v)
      case atStart => exact ⟨t, HL.out.1, by rw [HL.out.2], HB.out⟩
      case round =>
        obtain ⟨s, HI⟩ := hrel
        obtain ⟨ad, c2, hv⟩ : ∃ ad c2, u3 = .slice ad s.length c2 := by
          rcases HI.out.1.own.form with ⟨e1, e2⟩ | ⟨g2, c2, e1, _⟩
          · exact ⟨none, 0, by rw [e1, e2]; rfl⟩
          · exact ⟨_, c2, e1⟩
        rcases Nat.lt_or_ge s.length 2 with h2 | h2
        · subst hv
          have g2 : decide (2 ≤ (s.length : Int)) = false := by simp; omega
          have g3 : decide (2 ≤ s.length) = false := by simp; omega
          go_wp2_with fail
          go_quiet (fail)
          have HD : Hid (LT w (wr.drewN nq) (.slice ad s.length c2) s k) := HI.out.1.go ((New.refl _).drewN nq)
          obtain ⟨y0, y1⟩ := HX.out (wr.drewN nq) (HI.out.2.2.drewN nq)
          have HE : Hid (s.reverse = pops D p (wayOf D (l.take k))) := by rw [Hid, ← HI.out.2.1, pops_short _ (by simpa using h2)]
          obtain ⟨vk, wk, k1, R⟩ := left_step HD.out hk' hl HC.out HE.out
          generalize wr.drewN nq = V at *
          go_wp2_with (first | (at_builtin; refine Go.Lib.wpList_append_run _ rfl _ _ 28 28 rfl _ _ rfl rfl vk wk k1 ?_) | go_in)
          go_roundw
          case rel => exact ⟨k + 1, s ++ [p], by go_num, hk', R⟩
          case measure => simp [intOf]; omega
        · obtain ⟨q, a, b, rfl⟩ := two_last h2
          clear hv h2 ad c2
          rcases HI.out.1.own.form with ⟨e1, e2⟩ | ⟨g2, c2, e1, _, hg2, hlc, _⟩
          · simp at e2
          · obtain ⟨m, hm⟩ : ∃ m, m = q.length := ⟨_, rfl⟩
            have el : (q ++ [a, b]).length = m + 2 := by simp [hm]
            rw [el] at e1 hlc
            subst e1
            have HA : Hid (LT w wr (.slice (some ⟨g2, 0, none⟩) (m + 2) c2) (q ++ [a, b]) k ∧ CdP a ∧ CdP b ∧ g2 < wr.heap.size) := ⟨HI.out.1, HI.out.1.cd a (by simp), HI.out.1.cd b (by simp), hg2⟩
            obtain ⟨a0, a1, b0, b1⟩ := last_cells hm HI.out.1
            obtain ⟨y0, y1⟩ := HX.out wr HI.out.2.2
            have HW : Hid (New wr wr.drew) := (New.refl _).dr
            have HM : Hid (m = q.length) := hm
            have ws : ((m + 2 : Nat) : Int) = (m : Int) + 2 := by omega
            have b1' : (0 : Int) ≤ (m : Int) := by omega
            have b2' : (m : Int) < (m : Int) + 2 := by omega
            have b3' : (0 : Int) ≤ (m : Int) + 1 := by omega
            have b4' : (m : Int) + 1 < (m : Int) + 2 := by omega
            have b5' : ((m : Int) + 1).toNat = m + 1 := by omega
            have w0 : IntKind.i64.wrap (m : Int) = (m : Int) := by rw [IntKind.wrap_i64]; have := HI.out.1.len; simp at this; omega
            have gd : decide (2 ≤ (m : Int) + 2) = true := by simp; omega
            have w1 : IntKind.i64.wrap ((m : Int) + 2 - 2) = (m : Int) := by rw [IntKind.wrap_i64]; have := HI.out.1.len; simp at this; omega
            have w2 : IntKind.i64.wrap ((m : Int) + 2 - 1) = (m : Int) + 1 := by rw [IntKind.wrap_i64]; have := HI.out.1.len; simp at this; omega
            have KS : Hid (∀ V, New wr V → V.cell? ⟨g2, m * 2, none⟩ = some (.int .i64 a.1) ∧ V.cell? ⟨g2, m * 2 + 1, none⟩ = some (.int .i64 a.2) ∧ V.cell? ⟨g2, (m + 1) * 2, none⟩ = some (.int .i64 b.1) ∧ V.cell? ⟨g2, (m + 1) * 2 + 1, none⟩ = some (.int .i64 b.2) ∧ V.cell? ⟨wo.heap.size, 0, none⟩ = some (.int .i64 p.1) ∧ V.cell? ⟨wo.heap.size, 1, none⟩ = some (.int .i64 p.2)) := fun V h => ⟨h.kept' a0, h.kept' a1, h.kept' b0, h.kept' b1, h.kept' y0, h.kept' y1⟩
            clear hm el
            go_wp2_with fail
            go_region_held3 (fun V => V.cell? ⟨g2, m * 2, none⟩ = some (.int .i64 a.1) ∧ V.cell? ⟨g2, m * 2 + 1, none⟩ = some (.int .i64 a.2) ∧ V.cell? ⟨g2, (m + 1) * 2, none⟩ = some (.int .i64 b.1) ∧ V.cell? ⟨g2, (m + 1) * 2 + 1, none⟩ = some (.int .i64 b.2) ∧ V.cell? ⟨wo.heap.size, 0, none⟩ = some (.int .i64 p.1) ∧ V.cell? ⟨wo.heap.size, 1, none⟩ = some (.int .i64 p.2))
              (first | exact KS.out _ HW.out)
              (first | (go_at_call 37; refine (of_any a.1 a.2 b.1 b.2 p.1 p.2 _ HA.out.2.1.1 HA.out.2.1.2 HA.out.2.2.1.1 HA.out.2.2.1.2 HC.out.1.1 HC.out.1.2).mono ?_; rintro e w3 ⟨rfl, H3⟩; replace HW : Hid (New wr w3) := HW.out.trans' H3.out; clear H3))
            have H3 : Hid (LT w w3 (.slice (some ⟨g2, 0, none⟩) (m + 2) c2) (q ++ [a, b]) k ∧ New (wo.alloc (.cells #[.int .i64 p.1, .int .i64 p.2] 23)) w3) := ⟨HA.out.1.go HW.out, HI.out.2.2.trans' HW.out⟩
            obtain ⟨z0, z1⟩ := HX.out w3 H3.out.2
            by_cases hd : sgn (det a.1 a.2 b.1 b.2 p.1 p.2) ≤ 0
            · have HD : Hid (D a b p ≤ 0) := by
                have := hd
                rw [sgn_le] at this
                exact this
              have HN : Hid (LT w w3 (.slice (some ⟨g2, 0, none⟩) (m + 1) c2) (q ++ [a]) k ∧ pops D p (q ++ [a]).reverse = pops D p (wayOf D (l.take k))) := by
                refine ⟨?_, ?_⟩
                · have h5 := H3.out.1
                  have e1 : q ++ [a, b] = (q ++ [a]) ++ [b] := by simp
                  have e2 : m + 2 = ((q ++ [a]) ++ [b]).length := by simp [HM.out]
                  have e3 : m + 1 = (q ++ [a]).length := by simp [HM.out]
                  rw [e1, e2] at h5
                  rw [e3]
                  exact h5.cut
                · rw [← HI.out.2.1]
                  have e : (q ++ [a, b]).reverse = b :: a :: q.reverse := by simp
                  rw [e, pops, if_pos HD.out]
                  simp
              clear a0 a1 b0 b1 y0 y1 z0 z1
              go_wp2_with fail
              go_roundw
              case rel => exact ⟨q ++ [a], HN.out.1, HN.out.2, H3.out.2⟩
              case measure => simp [lenV]
            · have HD : Hid (¬D a b p ≤ 0) := fun h => hd (sgn_le.2 h)
              have HE : Hid ((q ++ [a, b]).reverse = pops D p (wayOf D (l.take k))) := by
                rw [Hid, ← HI.out.2.1]
                have e : (q ++ [a, b]).reverse = b :: a :: q.reverse := by simp
                rw [e, pops, if_neg HD.out]
              obtain ⟨vk, wk, k1, R⟩ := left_step H3.out.1 hk' hl HC.out HE.out
              clear a0 a1 b0 b1 y0 y1
              go_wp2_with (first | (at_builtin; refine Go.Lib.wpList_append_run _ rfl _ _ 28 28 rfl _ _ rfl rfl vk wk k1 ?_) | go_in)
              go_roundw
              case rel => exact ⟨k + 1, q ++ [a, b] ++ [p], by go_num, hk', R⟩
              case measure => simp [intOf]; omega
    · have e : k = l.length := by omega
      subst e
      go_wp2_with fail
      go_ret
      exact ⟨_, t, rfl, by rw [H.out.2, List.take_length], H.out.1.new, H.out.1.own⟩
end Go.Proofs.Ytgeoffpcmkofkaa
/- The walk of hull's 'around'. -/
namespace Go.Proofs.Ytgeoffpcmkofkaa
open Go.RowKit Fl Go.Lib
set_option maxRecDepth 100000
attribute [local go_sem ↓] Go.wp_at_zero Go.wp_at_succ

/-- There and back, each without its last point. -/
def ringL (s : Pts) : Pts := if s.length < 2 then s else (wayOf D s).reverse.dropLast ++ (wayOf D s.reverse).reverse.dropLast

theorem OwnP.base {w : World} {b b' : Nat} {v : Value} {l : Pts} (h : OwnP w b v l) (hb : b' ≤ b) : OwnP w b' v l :=
  ⟨h.1, h.2.imp id fun ⟨g, cap, cur, h1, h2, h3⟩ => ⟨g, cap, cur, h1, Nat.le_trans hb h2, h3⟩⟩
theorem OwnP.but {w w' : World} {base g g2 n cap : Nat} {l : Pts} (h : OwnP w base (.slice (some ⟨g, 0, none⟩) n cap) l) (hg : w.grownBy w' (some g2)) (hne : g ≠ g2) : OwnP w' base (.slice (some ⟨g, 0, none⟩) n cap) l :=
  World.ownsRow.kept h hg (.inr (by simp [Value.ownBlock, hne]))
theorem pops_ne (p : Pt) : ∀ {l : Pts}, l ≠ [] → pops D p l ≠ []
  | [], h => absurd rfl h
  | [a], _ => by simp [pops]
  | t :: s :: l, _ => by
    rw [pops]
    split
    · exact pops_ne p (by simp)
    · simp
theorem pops_le (p : Pt) : ∀ l : Pts, (pops D p l).length ≤ l.length
  | [] => by simp [pops]
  | [a] => by simp [pops]
  | t :: s :: l => by
    rw [pops]
    split
    · have := pops_le p (s :: l); simp at this ⊢; omega
    · simp
theorem way_ne : ∀ (k : Nat) (s : Pts), 0 < k → k ≤ s.length → wayOf D (s.take k) ≠ []
  | 0, _, h, _ => by omega
  | k + 1, s, _, h => by rw [wayOf_succ (List.getElem?_eq_getElem (show k < s.length by omega))]; simp
theorem way_len {s : Pts} (h : 2 ≤ s.length) : 2 ≤ (wayOf D s).length := by
  obtain ⟨k, hk⟩ : ∃ k, s.length = k + 1 + 1 := ⟨s.length - 2, by omega⟩
  have e := wayOf_succ (l := s) (k := k + 1) (List.getElem?_eq_getElem (show k + 1 < s.length by omega))
  rw [show k + 1 + 1 = s.length by omega, List.take_length] at e
  rw [e]
  have h1 := pops_ne s[k + 1] (way_ne (k + 1) s (by omega) (by omega))
  have : 0 < (pops D s[k + 1] (wayOf D (s.take (k + 1)))).length := List.length_pos_iff.2 h1
  simp
  omega
theorem way_le : ∀ (k : Nat) (s : Pts), k ≤ s.length → (wayOf D (s.take k)).length ≤ k
  | 0, _, _ => by simp [wayOf]
  | k + 1, s, h => by
    rw [wayOf_succ (List.getElem?_eq_getElem (show k < s.length by omega))]
    have h1 := way_le k s (by omega)
    have h2 := pops_le s[k] (wayOf D (s.take k))
    simp
    omega
theorem way_le' (s : Pts) : (wayOf D s).length ≤ s.length := by
  have := way_le s.length s (Nat.le_refl _)
  rwa [List.take_length] at this

theorem pts_cut {w : World} {g : Nat} {t : Pts} (h : PtsAt w g 0 t) : PtsAt w g 0 t.dropLast := fun i hi => by
  have h1 : i < t.length := by simp at hi; omega
  have h2 := h i h1
  have e : t.dropLast[i] = t[i] := List.getElem_dropLast hi
  rw [e]
  exact h2

set_option maxHeartbeats 1600000 in
theorem around_some (g off cap : Nat) (l : Pts) (w : World) (hp : PtsAt w g off l) (hl : l.length ≤ 400000) (hc : ∀ x ∈ l, CdP x) :
    Calls Try.prog 70 #[.slice (some ⟨g, off, none⟩) l.length cap] w fun e w' => ∃ v s, e = .returned v ∧ Hid (IsDis l s ∧ New w w' ∧ OwnP w' w.heap.size v (ringL s)) := by
  have HC : Hid (∀ x ∈ l, CdP x) := hc
  go_enter Try.func70, Try.ntmps70
  go_wp2_with fail
  refine (distinct_some g off cap l w hp (by omega) hc).mono ?_
  rintro e w1 ⟨v1, s, rfl, H1⟩
  obtain ⟨ad, c1, hv⟩ : ∃ ad c1, v1 = .slice ad s.length c1 := by
    rcases H1.out.2.2.form with ⟨e1, e2⟩ | ⟨g2, c2, e1, _⟩
    · exact ⟨none, 0, by rw [e1, e2]; rfl⟩
    · exact ⟨_, c2, e1⟩
  clear hp hc
  rcases Nat.lt_or_ge s.length 2 with h2 | h2
  · subst hv
    have HR : Hid (ringL s = s) := if_pos h2
    have h2' : (s.length : Int) < 2 := by omega
    go_wp2_with fail
    go_ret
    exact ⟨_, s, rfl, H1.out.1, H1.out.2.1, by rw [HR.out]; exact H1.out.2.2⟩
  · clear hv ad c1
    rcases H1.out.2.2.form with ⟨_, e2⟩ | ⟨g1, c1, e1, hb1, hg1, hlc, hcm⟩
    · rw [e2] at h2; simp at h2
    · subst e1
      have hsl := H1.out.1.len
      have HS : Hid (w.heap.size ≤ g1 ∧ g1 < w1.heap.size ∧ 2 ≤ s.length ∧ ∀ x ∈ s, CdP x) := ⟨hb1, hg1, h2, fun x hx => HC.out x ((H1.out.1.mem x).1 hx)⟩
      have hsl' : s.length ≤ 400000 := by omega
      have h2' : ¬(s.length : Int) < 2 := by omega
      clear hb1 hg1 hcm hsl h2
      go_wp2_with fail
      refine (left_any g1 c1 s w1 H1.out.2.2.pts HS.out.2.1 (by omega) HS.out.2.2.2).mono ?_
      rintro e w2 ⟨v2, t2, rfl, H2⟩
      have k2 : OwnP w2 w.heap.size (.slice (some ⟨g1, 0, none⟩) s.length c1) s := H1.out.2.2.new H2.out.2.1
      go_wp2_with fail
      refine (reverse_any w.heap.size g1 c1 s w2 k2 (by omega)).mono ?_
      rintro e w3 ⟨rfl, H3⟩
      go_wp2_with fail
      have k3 : OwnP w3 w.heap.size (.slice (some ⟨g1, 0, none⟩) s.reverse.length c1) s.reverse := by rw [List.length_reverse]; exact H3.out.2
      have hb := left_any g1 c1 s.reverse w3 k3.pts (by have := H3.out.1.size; have := H2.out.2.1.size; have := HS.out.2.1; omega) (by simp; omega) (fun x hx => HS.out.2.2.2 x (by simpa using hx))
      rw [List.length_reverse] at hb
      refine hb.mono ?_
      clear hb k2 k3
      rintro e w4 ⟨v4, t4, rfl, H4⟩
      rcases H2.out.2.2.form with ⟨_, e2⟩ | ⟨g2, c2, e2, hb2, hg2, hlc2, _⟩
      · have h5 := way_len HS.out.2.2.1
        rw [← H2.out.1, e2] at h5
        simp at h5
      · rcases H4.out.2.2.form with ⟨_, e4⟩ | ⟨g4, c4, e4, hb4, hg4, hlc4, _⟩
        · have h5 := way_len (s := s.reverse) (by simpa using HS.out.2.2.1)
          rw [← H4.out.1, e4] at h5
          simp at h5
        · subst e2 e4
          have q2 : 2 ≤ t2.length := by have h5 := way_len HS.out.2.2.1; rw [← H2.out.1] at h5; simpa using h5
          have q4 : 2 ≤ t4.length := by have h5 := way_len (s := s.reverse) (by simpa using HS.out.2.2.1); rw [← H4.out.1] at h5; simpa using h5
          have u2 : t2.length ≤ s.length := by have h5 := way_le' s; rw [← H2.out.1] at h5; simpa using h5
          have u4 : t4.length ≤ s.length := by have h5 := way_le' s.reverse; rw [← H4.out.1] at h5; simpa using h5
          have o2 : OwnP w4 w.heap.size (.slice (some ⟨g2, 0, none⟩) t2.length c2) t2 := by
            have := HS.out.2.1
            exact ((H2.out.2.2.base H1.out.2.1.size).but H3.out.1 (by omega)).new H4.out.2.1
          have HN : Hid (New w w4) := (((H1.out.2.1.trans' H2.out.2.1).own H3.out.1 HS.out.1).trans' H4.out.2.1)
          obtain ⟨n2, en2⟩ : ∃ n, t2.length = n + 1 := ⟨t2.length - 1, by omega⟩
          obtain ⟨n4, en4⟩ : ∃ n, t4.length = n + 1 := ⟨t4.length - 1, by omega⟩
          have HK : Hid (∀ V, New w4 V → V.cell? ⟨w4.heap.size, 0, none⟩ = some (.slice (some ⟨g2, 0, none⟩) n2 c2) → V.cell? ⟨w4.heap.size, 1, none⟩ = some (.slice (some ⟨g4, 0, none⟩) n4 c4) → Calls Try.prog 89 #[.slice (some ⟨w4.heap.size, 0, none⟩) 2 2] V fun e w' => ∃ v, e = .returned v ∧ Hid (New w w' ∧ OwnP w' w.heap.size v (ringL s))) := fun V hV x1 x2 => by
            have l2 : t2.dropLast.length = n2 := by simp [en2]
            have l4 : t4.dropLast.length = n4 := by simp [en4]
            have hq := concat_two w4.heap.size g2 c2 g4 c4 t2.dropLast t4.dropLast V (by rw [l2]; exact x1) (by rw [l4]; exact x2) (pts_cut (o2.new hV).pts) (pts_cut (H4.out.2.2.new hV).pts) (by have := hV.size; have := H4.out.2.1.size; have := H3.out.1.size; omega) (by have := hV.size; omega) (by omega) (by omega)
            refine hq.mono ?_
            rintro e w' ⟨v, rfl, H5⟩
            refine ⟨v, rfl, (HN.out.trans' hV).trans' H5.out.1, ?_⟩
            have e : ringL s = t2.dropLast ++ t4.dropLast := by
              unfold ringL
              rw [if_neg (by have := HS.out.2.2.1; omega), ← H2.out.1, ← H4.out.1, List.reverse_reverse, List.reverse_reverse]
            rw [e]
            exact H5.out.2.base (Nat.le_trans HN.out.size hV.size)
          rw [en2] at hlc2 ⊢
          rw [en4] at hlc4 ⊢
          have HI : Hid (IsDis l s) := H1.out.1
          have b2 : n2 ≤ c2 := by omega
          have b4 : n4 ≤ c4 := by omega
          have x2 : IntKind.i64.wrap ((n2 : Int) + 1 - 1) = (n2 : Int) := by rw [IntKind.wrap_i64]; omega
          have x4 : IntKind.i64.wrap ((n4 : Int) + 1 - 1) = (n4 : Int) := by rw [IntKind.wrap_i64]; omega
          have y2 : IntKind.i64.wrap (n2 : Int) = (n2 : Int) := by rw [IntKind.wrap_i64]; omega
          have y4 : IntKind.i64.wrap (n4 : Int) = (n4 : Int) := by rw [IntKind.wrap_i64]; omega
          have z2 : ((n2 + 1 : Nat) : Int) = (n2 : Int) + 1 := by omega
          have z4 : ((n4 + 1 : Nat) : Int) = (n4 : Int) + 1 := by omega
          have f2 : (0 : Int) ≤ (n2 : Int) := by omega
          have f4 : (0 : Int) ≤ (n4 : Int) := by omega
          have j2 : (n2 : Int) ≤ (c2 : Int) := by omega
          have j4 : (n4 : Int) ≤ (c4 : Int) := by omega
          clear H1 H2 H3 H4 o2 q2 q4 u2 u4 hlc2 hlc4 en2 en4 hb2 hb4 hg2 hg4 hlc hsl' h2'
          go_wp2_with fail
          go_region_held3 (fun _ => 0 ≤ 0) (first | exact Nat.le_refl 0)
            (first | (go_at_call 89; refine (HK.out _ ((New.refl w4).dr.alloc' _) (by go_simp) (by go_simp)).mono ?_; rintro e w5 ⟨v5, rfl, H5⟩))
          go_wp2_with fail
          go_ret
          exact ⟨v5, s, rfl, HI.out, H5.out⟩

set_option maxHeartbeats 800000 in
theorem around_nil (w : World) : Calls Try.prog 70 #[.slice none 0 0] w fun e w' => e = .returned (.slice none 0 0) ∧ Hid (New w w') := by
  go_enter Try.func70, Try.ntmps70
  go_wp2_with fail
  refine (distinct_nil w).mono ?_
  rintro e w1 ⟨rfl, H1⟩
  go_wp2_with fail
  go_ret
  exact ⟨rfl, H1.out⟩
end Go.Proofs.Ytgeoffpcmkofkaa
