/- Xh: texts laid into one. -/
import Derived.Test.YtgeoffpcmkofkaaRbh
import Derived.Test.YtgeoffpcmkofkaaRbb
import Derived.Test.YtgeoffpcmkofkaaRah
import Derived.Lib.SmallJoins
import Derived.Lib.AppendZeros
/- The walk of plumbkeep's 'fits', of any list; all cells of its row are numbers. -/
namespace Go.Proofs.Ytgeoffpcmkofkaa
open Go Go.RowKit Fl
set_option maxRecDepth 100000
attribute [local go_sem ↓] Go.wp_at_zero Go.wp_at_succ

abbrev IntCell (x : Value) : Prop := ∃ n, x = Value.int .i64 n
theorem step_append_ints {P : Program} {w : World} {ops : Array Oper} {o : Oper} {a : Act} {K : Act → World → Prop} {Q : Exit → Act → World → Prop} {E : Prop} (hgd : o.guard = none) (s x : Operand) (t : TypeId)
    (ho : o.op = .call { callee := .builtin .append, args := #[s, x], argTypes := #[t, t] })
    (base : Nat) (e : TypeId) (i : TypeInfo) (z : Value) (size bytes : Nat) (ht : P.underlying t = some (.slice e)) (hi : P.info? e = some i) (hz : i.zero = some z)
    (hsize : i.size = size) (hby : i.bytes = bytes) (hzs : z.cells.size = size) (hsz : 0 < size)
    (v : Value) (n : Nat) (xs : List Value) (hs : a.eval s = v) (hown : w.ownsRow base e size v n xs)
    (ad : Addr) (m c : Nat) (news : List Value) (hx : a.eval x = .slice (some ad) m c) (hl : news.length = m * size) (hnews : ∀ j u, news[j]? = some u → w.cell? (ad.add j) = some u) (h1 : ∀ u ∈ news, u.oneCell' = true)
    (hm : 0 < m) (h63 : n + m ≤ maxLen) (hbytes : (n + m) * bytes ≤ 140737488355328) (hbase : base ≤ w.heap.size) (hall : AllRow IntCell w v) (hzI : ∀ x ∈ z.cells.toList, IntCell x) (hnI : ∀ x ∈ news, IntCell x)
    (h : ∀ g cap w', w'.ownsRow base e size (.slice (some ⟨g, 0, none⟩) (n + m) cap) (n + m) (xs ++ news) → w.grownBy w' v.ownBlock → AllRow IntCell w' (.slice (some ⟨g, 0, none⟩) (n + m) cap) → K (a.put o.dst (.slice (some ⟨g, 0, none⟩) (n + m) cap)) w') :
    if Region.wanted o (yielded ops a.tmps) = true then Oper.wp P o a w K Q else E := by
  have hw : Region.wanted o (yielded ops a.tmps) = true := by simp [Region.wanted, hgd]
  rw [if_pos hw]
  obtain ⟨v', w', hr, k2, k3, k4⟩ := run_append_own (P := P) w base t o.type e i z size bytes ht hi hz hsize hby hzs hsz v n xs hown ad m c news hl hnews h1 h63 hbytes hbase
  have hA := append_all ht hi hz hsize hby hown hl hnews h1 h63 hbytes (by omega) hall hzI hnI hr
  obtain ⟨g, cap, rfl⟩ := Go.Joins.ownsRow_form k2 (by omega)
  exact Go.Lib.wp_append_run w s x t t ho v _ hs hx _ w' hr (h g cap w' k2 k3 hA)
/-- The points that were gathered; all cells are numbers. -/
structure GotI (w wr : World) (v : Value) (k : Nat) (out : Pts) : Prop where
  got : Got w wr v k out
  ints : AllRow IntCell wr v
theorem zeroI : ∀ x ∈ (Value.agg #[.int .i64 0, .int .i64 0]).cells.toList, IntCell x := by
  intro x hx
  simp [Value.cells] at hx
  exact ⟨0, hx⟩
theorem pairI (r1 r2 : Int) : ∀ x ∈ [Value.int .i64 r1, .int .i64 r2], IntCell x := by
  intro x hx
  simp at hx
  rcases hx with rfl | rfl <;> exact ⟨_, rfl⟩
theorem allRow_nil (w : World) : AllRow IntCell w (.slice none 0 0) := fun g hg => by cases hg
theorem AllRow.new {w w' : World} {base e size n : Nat} {v : Value} {xs : List Value} (h : AllRow IntCell w v) (hown : w.ownsRow base e size v n xs) (hn : New w w') : AllRow IntCell w' v := by
  intro g hg c t f hc
  rcases hown.2 with ⟨rfl, _⟩ | ⟨g', cap, cur, rfl, _, hg', _⟩
  · cases hg
  · injection hg with hg
    simp only at hg
    subst hg
    rw [hn.block g' (Array.getElem?_eq_some_iff.1 hg').1 (by simp)] at hc
    exact h g' rfl c t f hc
set_option maxHeartbeats 1600000 in
theorem fits_ints (g off cap : Nat) (l : Pts) (w : World) (h : PtsAt w g off l) (hg : g < w.heap.size) (hin : In64 l) :
    Calls Try.prog 17 #[.slice (some ⟨g, off, none⟩) l.length cap] w fun e w' => ∃ (v : Value) (out : Pts), e = .returned v ∧ Hid (GotI w w' v (min l.length 40) out) := by
  obtain ⟨i0, hi0, hz0, hz1, hz2⟩ := info_parts Try.info23
  go_enter Try.func17, Try.ntmps17
  go_wp2_with fail
  go_loopw [3, 4] (fun v i wr => ∃ (k : Nat) (out : Pts), i = .int .i64 k ∧ k ≤ l.length ∧ k ≤ 40 ∧ Hid (GotI w wr v k out))
    (fun _ i _ => l.length - (intOf i).toNat)
  case atStart => exact ⟨0, [], rfl, Nat.zero_le _, Nat.zero_le _, ⟨⟨New.refl _, rfl, rfl, World.ownsRow_nil _ _ _ _⟩, allRow_nil _⟩⟩
  case round =>
    obtain ⟨k, out, rfl, hle, hle40, HI⟩ := hrel
    have H : Hid (Got w wr u3 k out) := HI.out.got
    by_cases hk : k < l.length
    · by_cases hk40 : k < 40
      · have hc1 := ((h.kept hg H.out.new) k hk).1
        have hc2 := ((h.kept hg H.out.new) k hk).2
        obtain ⟨x, hx⟩ : ∃ x, x = l[k].1 := ⟨_, rfl⟩
        obtain ⟨y, hy⟩ : ∃ y, y = l[k].2 := ⟨_, rfl⟩
        have HX := hin _ (List.getElem_mem hk)
        rw [← hx, ← hy] at HX
        obtain ⟨⟨hx1, hx2⟩, hy1, hy2⟩ := HX
        rw [← hx] at hc1
        rw [← hy] at hc2
        clear hx hy
        have hk0' : (0 : Int) ≤ (k : Int) := Int.natCast_nonneg _
        have hk1' : (k : Int) < (l.length : Int) := by omega
        have hgr : g < wr.heap.size := Nat.lt_of_lt_of_le hg H.out.new.size
        go_wp2_with fail
        have F1 : Hid (0 ≤ k) := Nat.zero_le _
        go_region_held3 (fun w' => w'.cell? ⟨g, off + k * 2, none⟩ = some (.int .i64 x) ∧ w'.cell? ⟨g, off + k * 2 + 1, none⟩ = some (.int .i64 y))
          (first
            | go_keep
            | exact ⟨(H1.out.rule _ _ (by simpa using hgr)).trans (by simpa using hc1), (H1.out.rule _ _ (by simpa using hgr)).trans (by simpa using hc2)⟩
            | (go_split_ands
               refine ⟨?_, ?_⟩
               · (rw [hgrow.cell_far _ (by have q1 := H1.out.size; simp at q1 ⊢; omega) (own_ne H.out.own hg)]; assumption)
               · (rw [hgrow.cell_far _ (by have q1 := H1.out.size; simp at q1 ⊢; omega) (own_ne H.out.own hg)]; assumption)))
          (first
            | (go_at_call 35; clear F1; refine (fit_any x _ hx1 hx2).mono ?_; rintro e wf1 ⟨r1, rfl, HC1, rfl⟩)
            | (go_at_call 35; refine (fit_any y _ hy1 hy2).mono ?_; rintro e wf2 ⟨r2, rfl, HC2, rfl⟩)
            | (go_at_call 34; refine (at_any r1 r2 _).mono ?_; rintro e w1 ⟨rfl, H1⟩)
            | ((refine step_append_ints (by rfl) _ _ _ (by rfl) w.heap.size 23 i0 _ 2 16 Try.underlying28 hi0 hz0 hz1 hz2 rfl (by omega) u3 k (flatP out) (by rfl) ((H.out.own.drew.kept H1.out (by cases hv : u3.ownBlock <;> simp)).alloc _)
                    ⟨w1.heap.size, 0, none⟩ 1 1 [.int .i64 r1, .int .i64 r2] (by rfl) (by rfl) (World.news_of_block (cs := #[.int .i64 r1, .int .i64 r2]) (t := 23) (fr := (0, 0)) (heap_alloc_new w1 _)) (by simp [Value.oneCell'])
                    (by omega) (by unfold maxLen; omega) (by omega) (by have q1 := H1.out.size; have q2 := H.out.new.size; simp at q1 ⊢; omega) (HI.out.ints.new H.out.own (((New.refl wr).drew1.trans' H1.out).alloc' _)) zeroI (pairI r1 r2) ?_; intro gg cap' w2 hown1 hgrow hints)))
        have R : Hid (GotI w w2 (.slice (some ⟨gg, 0, none⟩) (k + 1) cap') (k + 1) (out ++ [(r1, r2)])) := ⟨H.out.next HC1.out HC2.out H1.out _ hown1 hgrow, hints⟩
        clear hown1 hgrow hints
        go_wp2_with fail
        go_roundw
        case rel => exact ⟨k + 1, out ++ [(r1, r2)], by go_num, hk, hk40, R⟩
        case measure => simp [intOf]; omega
      · have hk2 : k = 40 := by omega
        have hm : min l.length 40 = k := by omega
        go_wp2_with fail
        go_ret
        exact ⟨u3, out, rfl, by rw [hm]; exact HI⟩
    · have hm : min l.length 40 = k := by omega
      go_wp2_with fail
      go_ret
      exact ⟨u3, out, rfl, by rw [hm]; exact HI⟩
set_option maxHeartbeats 400000 in
theorem fits_none (ao : Option Addr) (cap : Nat) (w : World) :
    Calls Try.prog 17 #[.slice ao 0 cap] w fun e w' => e = .returned (.slice none 0 0) ∧ w = w' := by
  go_enter Try.func17, Try.ntmps17
  go_wp2_with fail
  go_loopw [3, 4] (fun v i wr => v = .slice none 0 0 ∧ i = .int .i64 0 ∧ w = wr) (fun _ _ _ => 0)
  case atStart => exact ⟨rfl, rfl, rfl⟩
  case round =>
    obtain ⟨rfl, rfl, rfl⟩ := hrel
    go_wp2_with fail
    go_ret
    exact ⟨rfl, rfl⟩
/-- .. of any list. -/
theorem fits_poly (ao : Option Addr) (cap : Nat) (l : Pts) (w : World) (h : PolyAt w ao l) (hin : In64 l) :
    Calls Try.prog 17 #[.slice ao l.length cap] w fun e w' => ∃ (v : Value) (out : Pts), e = .returned v ∧ Hid (GotI w w' v (min l.length 40) out) := by
  by_cases hn : l = []
  · subst hn
    refine (fits_none ao cap w).mono ?_
    rintro e w' ⟨rfl, rfl⟩
    exact ⟨_, [], rfl, ⟨New.refl _, rfl, rfl, World.ownsRow_nil _ _ _ _⟩, allRow_nil _⟩
  · obtain ⟨g, off, rfl, hp, hg⟩ := h (List.length_pos_iff.2 hn)
    exact fits_ints g off cap l w hp hg hin
end Go.Proofs.Ytgeoffpcmkofkaa
