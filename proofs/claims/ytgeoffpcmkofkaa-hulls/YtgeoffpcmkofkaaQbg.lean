/- Mm; Mn; Hj; Hk; Mo; Mp; Mq; Hn; Hl: texts laid into one. -/
import Derived.Test.YtgeoffpcmkofkaaQbd
import Derived.Test.YtgeoffpcmkofkaaQbc
import Derived.Test.YtgeoffpcmkofkaaQbf
import Derived.Test.YtgeoffpcmkofkaaQbb
import Derived.Test.YtgeoffpcmkofkaaQah
import Derived.Test.YtgeoffpcmkofkaaQap
/- The end of hull.Of: the corners' numbers. -/
namespace Go.Proofs.Ytgeoffpcmkofkaa
open Go Go.Conc Go.RowKit Fl Go.Maps
set_option maxRecDepth 100000
attribute [local go_sem ↓] Go.wp_at_zero Go.wp_at_succ

noncomputable def c54 : Code := match Try.f54.body with
  | some (.seq _ (.seq _ (.seq _ r))) => r
  | _ => .skip
/-- The numbers of some points. -/
def numsOf (m : Ns) (ws : Pts) : List Value := ws.map fun p => .int .i64 (atN m p)
/-- Where the loop over the corners stands. -/
structure NI (w w1 wr : World) (m : Ns) (ws : Pts) (i : Nat) (xs : List Value) : Prop where
  gr : w1.grownBy wr (some w.heap.size)
  own : wr.ownsRow w.heap.size 3 1 (.slice (some ⟨w.heap.size, 0, none⟩) ws.length ws.length) ws.length xs
  done : xs.take i = (numsOf m ws).take i
theorem PtsAt.heap {w w' : World} {g off : Nat} {l : Pts} (h : PtsAt w g off l) (e : w'.heap[g]? = w.heap[g]?) : PtsAt w' g off l := fun i hi => by
  have := h i hi
  simp only [World.cell?, e] at this ⊢
  exact this
theorem NI.box {w w1 wr : World} {m : Ns} {ws : Pts} {i : Nat} {xs : List Value} (h : NI w w1 wr m ws i xs) (o : Obj) : NI w w1 (wr.alloc o) m ws i xs := ⟨h.gr.trans ((New.alloc wr o).but _), h.own.alloc o, h.done⟩
theorem NI.put {w w1 wr : World} {m : Ns} {ws : Pts} {i : Nat} {xs : List Value} {p : Pt} (h : NI w w1 wr m ws i xs) (hi : ws[i]? = some p) : NI w w1 (wr.setCell ⟨w.heap.size, i, none⟩ (.int .i64 (atN m p))) m ws (i + 1) (xs.set i (.int .i64 (atN m p))) := by
  have hs := World.ownsRow.stored h.own i (.int .i64 (atN m p))
  refine ⟨h.gr.trans hs.2, hs.1, ?_⟩
  have hlt : i < ws.length := (List.getElem?_eq_some_iff.1 hi).1
  have hx : xs.length = ws.length := by have := h.own.1; omega
  have e : (numsOf m ws)[i]? = some (.int .i64 (atN m p)) := by simp [numsOf, hi]
  rw [List.take_add_one, List.take_add_one, e, List.take_set_of_le (Nat.le_refl _), h.done]
  simp [hx, hlt]

set_option maxHeartbeats 1600000 in
theorem rest54 (lv : Value) (g cap b n : Nat) (m : Ns) (ws : Pts) (w : World) (hp : PtsAt w g 0 ws) (hg : g < w.heap.size) (hm : MapI w b n m) (hl : ws.length ≤ 1000000) (hc : ∀ x ∈ ws, CdP x) (h1 h2 h3 h4 : Value) :
    c54.wp Try.prog (fun e a w' => (e = .normal ∨ e = .ret) ∧ ∃ v, a.tmps.getD 2 undef = v ∧ Hid (Kept w w' ∧ w'.ownsRow w.heap.size 3 1 v ws.length (numsOf m ws)))
      { tmps := #[lv, undef, .slice none 0 0, .map (some b), .slice (some ⟨g, 0, none⟩) ws.length cap, undef, undef, undef, h1, h2, h3, h4, .slice (some ⟨g, 0, none⟩) ws.length cap, undef, undef, undef, undef, undef, undef, undef, undef, undef, undef, undef, undef, undef, undef, undef, undef, undef, undef], defers := [] } w := by
  simp only [c54, Try.f54]
  have HP : Hid (PtsAt w g 0 ws ∧ g < w.heap.size ∧ MapI w b n m ∧ ∀ x ∈ ws, CdP x) := ⟨hp, hg, hm, hc⟩
  clear hp hg hm hc
  obtain ⟨i0, hi0, hz0, hz1, hz2⟩ := info_parts Try.info3
  obtain ⟨w1, k1, k2, k3⟩ := run_make_full (P := Try.prog) w w.heap.size 46 3 i0 _ 1 Try.underlying46 hi0 hz0 hz1 .i64 .i64 ws.length (by rw [hz2]; omega) (by unfold maxLen; omega) (Nat.le_refl _)
  have HN : Hid (NI w w1 w1 m ws 0 (madeCells (Value.int .i64 0).cells (ws.length * 1)).toList ∧ w.grownBy w1 none) := ⟨⟨World.grownBy.refl _ _, k2, rfl⟩, k3⟩
  clear k2 k3 hi0 hz0 hz1 hz2
  go_wp2_with fail
  go_loopw [18] (fun i wr => ∃ (k : Nat) (xs : List Value), i = .int .i64 (k : Int) ∧ k ≤ ws.length ∧ Hid (NI w w1 wr m ws k xs)) (fun i _ => ws.length - (intOf i).toNat)
  case atStart => exact ⟨0, _, rfl, Nat.zero_le _, HN.out.1⟩
  case round =>
    obtain ⟨k, xs, rfl, hk, H⟩ := hrel
    have hsz : w1.heap.size ≤ wr.heap.size := H.out.gr.size
    rcases Nat.lt_or_ge k ws.length with hk' | hk'
    · have hb : b < w.heap.size := HP.out.2.2.1.lt
      have hc := (HP.out.1.heap (w' := wr) (by rw [H.out.gr.block g (by have := HN.out.2.size; have := HP.out.2.1; omega) (by have := HP.out.2.1; simp; omega), HN.out.2.block g HP.out.2.1 (by simp)])) k hk'
      rw [Nat.zero_add] at hc
      obtain ⟨p, hp⟩ : ∃ p, p = ws[k] := ⟨_, rfl⟩
      have HC : Hid (CdP p ∧ ws[k]? = some p) := ⟨by rw [hp]; exact HP.out.2.2.2 _ (List.getElem_mem hk'), by rw [hp]; exact List.getElem?_eq_getElem hk'⟩
      rw [← hp] at hc
      obtain ⟨x0, x1⟩ := hc
      clear hp
      have i0 : (0 : Int) ≤ (k : Int) := by omega
      have i1 : (k : Int) < (ws.length : Int) := by omega
      have hw1 : IntKind.i64.wrap ((k : Int) + 1) = (k : Int) + 1 := by rw [IntKind.wrap_i64]; omega
      have HM : Hid (MapI (wr.alloc (.cells #[.int .i64 p.1, .int .i64 p.2] 23)) b n m) := ((HP.out.2.2.1.new HN.out.2).kept H.out.gr (by simp; omega)).new (New.alloc _ _)
      have HB : Hid (NI w w1 (wr.alloc (.cells #[.int .i64 p.1, .int .i64 p.2] 23)) m ws k xs) := H.out.box _
      obtain ⟨xk, hxk⟩ : ∃ xk, xs[k]? = some xk := ⟨_, List.getElem?_eq_getElem (show k < xs.length by have := H.out.own.1; omega)⟩
      have f1 := World.ownsRow.frozenAt HB.out.own k
      have f2 : (wr.alloc (.cells #[.int .i64 p.1, .int .i64 p.2] 23)).cell? ⟨w.heap.size, k, none⟩ = some xk := (World.ownsRow.cellAt HB.out.own k (by omega)).trans hxk
      have HF : Hid (NI w w1 ((wr.alloc (.cells #[.int .i64 p.1, .int .i64 p.2] 23)).setCell ⟨w.heap.size, k, none⟩ (.int .i64 (atN m p))) m ws (k + 1) (xs.set k (.int .i64 (atN m p)))) := HB.out.put HC.out.2
      have y0 : (wr.alloc (.cells #[.int .i64 p.1, .int .i64 p.2] 23)).cell? ⟨wr.heap.size, 0, none⟩ = some (.int .i64 p.1) := by go_simp
      have y1 : (wr.alloc (.cells #[.int .i64 p.1, .int .i64 p.2] 23)).cell? ⟨wr.heap.size, 1, none⟩ = some (.int .i64 p.2) := by go_simp
      clear hxk
      go_wp2_with (first
        | (at_lookup; refine wpList_lookI _ rfl _ _ rfl b n m rfl HM.out p rfl HC.out.1 ?_)
        | go_in)
      go_roundw
      case rel => exact ⟨k + 1, _, by go_num, hk', HF⟩
      case measure => simp [intOf]; omega
    · have e : k = ws.length := by omega
      subst e
      go_wp2_with fail
      refine ⟨⟨H.out.gr.os.trans HN.out.2.os, H.out.gr.output.trans HN.out.2.output, Nat.le_trans HN.out.2.size hsz, fun r hr => by rw [H.out.gr.block r (Nat.lt_of_lt_of_le hr HN.out.2.size) (by simp; omega), HN.out.2.block r hr (by simp)]⟩, ?_⟩
      have e : xs = numsOf m ws := by
        have h1 := H.out.done
        have h2 : xs.length = ws.length := by have := H.out.own.1; omega
        rw [List.take_of_length_le (by omega), List.take_of_length_le (by simp [numsOf])] at h1
        exact h1
      rw [← e]
      exact H.out.own
end Go.Proofs.Ytgeoffpcmkofkaa
/- hull.Of, beside goroutines that only leave. -/
namespace Go.Proofs.Ytgeoffpcmkofkaa
open Go Go.Conc Go.RowKit Fl Go.Maps
set_option maxRecDepth 100000

theorem fs69 : FSof fsI 69 := by decide
theorem MapI.heap {w w' : World} {b n : Nat} {m : Ns} (h : MapI w b n m) (e : w'.heap[b]? = w.heap[b]?) : MapI w' b n m := by
  obtain ⟨D, ⟨es, clock, h1, h2⟩, h3⟩ := h
  exact ⟨D, ⟨es, clock, by rw [e]; exact h1, h2⟩, h3⟩
/-- What FirstNumbers leaves. -/
structure FnK (w w' : World) (v : Value) (l : Pts) : Prop where
  kept : Kept w w'
  map : ∃ b, v = .map (some b) ∧ w.heap.size ≤ b ∧ MapI w' b l.length (numN l l.length)
/-- A row of numbers that was made. -/
structure OutN (w w' : World) (v : Value) (xs : List Value) : Prop where
  kept : Kept w w'
  row : w'.ownsRow w.heap.size 3 1 v xs.length xs

theorem codeP54 : CodeP Try.prog (FSof fsI) c54 := codeP_sound (by kernel_rfl)
theorem ring_le (s : Pts) : (ringL s).length ≤ 2 * s.length := by
  unfold ringL
  split
  · omega
  · have h1 := way_le' s
    have h2 := way_le' s.reverse
    simp at h2 ⊢
    omega
theorem ring_sub {s : Pts} {x : Pt} (h : x ∈ ringL s) : x ∈ s := by
  unfold ringL at h
  split at h
  · exact h
  · rcases List.mem_append.1 h with h | h
    · have h1 := List.mem_reverse.1 (List.dropLast_subset _ h)
      exact wayOf_sub s.length s x (by rw [List.take_length]; exact h1)
    · have h1 := List.mem_reverse.1 (List.dropLast_subset _ h)
      exact List.mem_reverse.1 (wayOf_sub s.reverse.length s.reverse x (by rw [List.take_length]; exact h1))
theorem cat_len {outs : Nat → Pts} {q : Nat} (h : ∀ i, (outs i).length ≤ q) : ∀ m, (cat outs m).length ≤ m * q
  | 0 => by simp [cat]
  | m + 1 => by
    have h1 := cat_len h m
    have h2 := h m
    rw [cat_succ, List.length_append, Nat.add_mul]
    omega
theorem cat_sub {outs : Nat → Pts} {x : Pt} {m : Nat} (h : x ∈ cat outs m) : ∃ i, i < m ∧ x ∈ outs i := by
  simp only [cat, List.mem_flatMap, List.mem_range] at h
  exact h
theorem PtsIn.part {c : Array Value} {l : Pts} (h : PtsIn c 0 l) (i : Nat) : PtsIn c (0 + i * 16) ((l.drop (8 * i)).take 8) := fun j hj => by
  have hj' : 8 * i + j < l.length := by simp at hj; omega
  have h1 := h (8 * i + j) hj'
  have e : ((l.drop (8 * i)).take 8)[j] = l[8 * i + j] := by simp
  rw [e, show 0 + i * 16 + j * 2 = 0 + (8 * i + j) * 2 by omega]
  exact h1
theorem PtsIn.row {cur : Array Value} {l : Pts} (h : cur.toList.take (l.length * 2) = flatP l) : PtsIn cur 0 l := fun i hi => by
  have h1 := flatP_get l i hi
  rw [← h] at h1
  rw [List.getElem?_take_of_lt (by omega), List.getElem?_take_of_lt (by omega)] at h1
  simpa using h1

set_option maxHeartbeats 1000000 in
theorem A.hullOf {Post : Value → World → Prop} {r0 cap : Nat} {c : Array Value} {l s : Pts} {ds : Nat → Pts} {w : World} {x : Frame} {cs : List Frame} (hl : l.length ≤ 1000) (hcap : l.length ≤ cap) (hw : w.heap[r0]? = some (.cells c 23 (0, 0))) (hc : ∀ x ∈ c.toList, ∃ n, x = .int .i64 n) (hr : GN ≤ r0)
    (hp : PtsIn c 0 l) (hcd : ∀ x ∈ l, CdP x) (hds : ∀ i, IsDis ((l.drop (8 * i)).take 8) (ds i)) (hs : IsDis (cat (fun i => ringL (ds i)) ((l.length + 7) / 8)) s) (hne : ringL s ≠ [])
    (h : ∀ v w', OutN w w' v (numsOf (numN l l.length) (ringL s)) → A Try.prog Post (x.finish v) cs w') :
    A Try.prog Post (Frame.enter Try.prog 54 #[.slice (some ⟨r0, 0, none⟩) l.length cap] .normal) (x :: cs) w := by
  have hlt : r0 < w.heap.size := (Array.getElem?_eq_some_iff.1 hw).1
  rw [Conc.enter_at _ Try.func54 (c := Try.f54.body.getD .skip) rfl]
  walk_nrmf Try.f54
  refine .ctl (fun _ => stepG_seq) ?_
  refine .ctl (fun _ => stepG_region) ?_
  walk_nrm
  refine .mov (.slice none 0 0) rfl rfl (.inr rfl) rfl (by decide) ?_
  walk_nrm
  refine .ctl (fun _ => stepG_region_end) ?_
  refine .ctl (fun _ => stepG_seq) ?_
  refine .ctl (fun _ => stepG_region) ?_
  walk_nrm
  refine .mov (.slice (some ⟨r0, 0, none⟩) l.length cap) rfl rfl (.inl rfl) rfl (by decide) ?_
  walk_nrm
  refine .ent (f := 69) (xs := #[.slice (some ⟨r0, 0, none⟩) l.length cap]) rfl rfl (by decide) (fun w' => by go_simp) (fun w' => by simp [go_sem, callFunc, Try.func69, Try.f69]) ?_
  refine A.call bodP noEarly fs69 Try.func69 (c := Try.f69.body.getD .skip) rfl (Q := fun v w' => FnK w w' v l) (fun v w1 w2 k q => ⟨q.kept.same k, let ⟨b, h1, h2, h3⟩ := q.map; ⟨b, h1, h2, h3.heap (by rw [k.heap])⟩⟩) (fun w' hs' => (first_some r0 cap l w' (hp.at (by rw [hs'.heap]; exact hw)) (by rw [hs'.heap]; exact hlt) (by omega) hcd).mono ?_) fun mv1 w1 hq => ?_
  · rintro e w2 ⟨b, rfl, H⟩
    refine ⟨_, rfl, H.out.1.kept0 hs', b, rfl, ?_, H.out.2.2⟩
    have := H.out.2.1
    rwa [hs'.heap] at this
  obtain ⟨bm, rfl, hbm, hmap⟩ := hq.map
  rw [Frame.finish_at]
  walk_nrm
  refine .mov (.map (some bm)) rfl rfl (.inr rfl) rfl (by decide) ?_
  walk_nrm
  refine .ctl (fun _ => stepG_region_end) ?_
  refine .ctl (fun _ => stepG_seq) ?_
  refine .ctl (fun _ => stepG_region) ?_
  walk_nrm
  refine .mov (.slice (some ⟨r0, 0, none⟩) l.length cap) rfl rfl (.inl rfl) rfl (by decide) ?_
  walk_nrm
  refine .ent (f := 71) (xs := #[.slice (some ⟨r0, 0, none⟩) l.length cap]) rfl rfl (by decide) (fun w' => by go_simp) (fun w' => by simp [go_sem, callFunc, Try.func71, Try.f71]) ?_
  refine A.parts (c := c) (outs := fun i => ringL (ds i)) hl hcap (by rw [hq.kept.block r0 hlt]; exact hw) hc hr (fun i hi => ?_) ?_ ?_ fun v1 w2 hO => ?_
  · have e : ((l.drop (8 * i)).take 8).length = min 8 (l.length - 8 * i) := by simp
    rw [← e]
    exact aroundC (hp.part i) (by rw [e]; omega) (fun x hx => hcd x (List.mem_of_mem_drop (List.mem_of_mem_take hx))) (hds i)
  · have h1 : ∀ i, (ringL (ds i)).length ≤ 16 := fun i => by
      have h1 := ring_le (ds i)
      have h2 := (hds i).len
      simp at h2
      omega
    have := cat_len h1 ((l.length + 7) / 8)
    omega
  · intro i
    have h1 := ring_le (ds i)
    have h2 := (hds i).len
    simp at h2
    omega
  have hpc : ∀ x ∈ cat (fun i => ringL (ds i)) ((l.length + 7) / 8), CdP x := fun x hx => by
    obtain ⟨i, _, h2⟩ := cat_sub hx
    exact hcd x (List.mem_of_mem_drop (List.mem_of_mem_take (((hds i).mem x).1 (ring_sub h2))))
  have hcl : (cat (fun i => ringL (ds i)) ((l.length + 7) / 8)).length ≤ 10000 := by
    have h1 : ∀ i, (ringL (ds i)).length ≤ 16 := fun i => by
      have h1 := ring_le (ds i)
      have h2 := (hds i).len
      simp at h2
      omega
    have := cat_len h1 ((l.length + 7) / 8)
    omega
  have hpne : cat (fun i => ringL (ds i)) ((l.length + 7) / 8) ≠ [] := fun e => hne (by
    have h1 := hs.len
    rw [e] at h1
    have h2 : s = [] := List.eq_nil_of_length_eq_zero (by simpa using h1)
    rw [h2]
    rfl)
  generalize cat (fun i => ringL (ds i)) ((l.length + 7) / 8) = pts at hO hs hpc hcl hpne
  obtain ⟨g, gcap, cur, e1, hgb, hgh, hgt⟩ : ∃ g gcap cur, v1 = .slice (some ⟨g, 0, none⟩) pts.length gcap ∧ w1.heap.size ≤ g ∧ w2.heap[g]? = some (.cells cur 23 (0, 0)) ∧ cur.toList.take (pts.length * 2) = flatP pts := by
    rcases hO.row.2 with ⟨_, e2⟩ | ⟨g, cap', cur, e1, e2, e3, e4, e5, e6, e7⟩
    · exact absurd (List.eq_nil_of_length_eq_zero e2) hpne
    · exact ⟨g, cap', cur, e1, e2, e3, e7⟩
  subst e1
  have hints := hO.ints g rfl cur 23 (0, 0) hgh
  rw [Frame.finish_at]
  walk_nrm
  refine .ent (f := 70) (xs := #[.slice (some ⟨g, 0, none⟩) pts.length gcap]) rfl rfl (by decide) (fun w' => by go_simp) (fun w' => by simp [go_sem, callFunc, Try.func70, Try.f70]) ?_
  refine A.around (aroundC (PtsIn.row hgt) (by omega) hpc hs) hgh hints (by have := hq.kept.size; omega) fun v2 w3 hR q1 q2 q3 q4 => ?_
  rcases hR with ⟨_, e⟩ | ⟨g3, c3, rfl, hg3, hp3⟩
  · exact absurd e hne
  rw [Frame.finish_at]
  walk_nrm
  refine .mov (.slice (some ⟨g3, 0, none⟩) (ringL s).length c3) rfl rfl (.inr rfl) rfl (by decide) ?_
  walk_nrm
  refine .ctl (fun _ => stepG_region_end) ?_
  have hmap3 : MapI w3 bm l.length (numN l l.length) := (hmap.heap (hO.kept.block bm hmap.lt)).heap (q4 bm (Nat.lt_of_lt_of_le hmap.lt hO.kept.size))
  have hg3' : g3 < w3.heap.size := by
    have h1 := (hp3 0 (List.length_pos_iff.2 hne)).1
    simp only [World.cell?] at h1
    rcases Nat.lt_or_ge g3 w3.heap.size with h | h
    · exact h
    · rw [Array.getElem?_eq_none h] at h1
      cases h1
  have hk3 : Kept w w3 := (hq.kept.trans hO.kept).trans ⟨q2, q3, q1, q4⟩
  refine A.rest bodP noEarly (b := base 54) Try.func54 rfl (c := c54) codeP54 rfl (Q := fun a w' => ∃ v, a.tmps.getD 2 undef = v ∧ OutN w w' v (numsOf (numN l l.length) (ringL s))) (fun a w1 w2 k q => ?_) (fun w' hs' => ?_) fun a' w' todo hd hQ => ?_
  · obtain ⟨v, h1, h2⟩ := q
    exact ⟨v, h1, h2.kept.same k, owns_same h2.row k⟩
  · refine Go.wp_mono (rest54 _ g3 c3 bm l.length (numN l l.length) (ringL s) w' (hp3.heap (by rw [hs'.heap])) (by rw [hs'.heap]; exact hg3') (hmap3.heap (by rw [hs'.heap])) ?_ (fun x hx => hpc x ((hs.mem x).1 (ring_sub hx))) _ _ _ _) fun e a w2 hh => ?_
    · have h1 := ring_le s
      have h2 := hs.len
      omega
    · obtain ⟨h1, v, h2, h3⟩ := hh
      refine ⟨h1, v, h2, (hk3.same hs').trans h3.out.1, ?_⟩
      have := own_base (N := w.heap.size) (by have := (hk3.same hs').size; exact this) h3.out.2
      simpa [numsOf] using this
  · obtain ⟨v, h1, h2⟩ := hQ
    refine .ctl (fr1 := x.finish v) (cs1 := cs) (fun w3 => ?_) (h v w' h2)
    obtain ⟨tmps, dfs⟩ := a'
    simp only at hd h1
    subst hd
    refine stepG_leave rfl rfl Try.func54 ?_ ?_
    · subst h1
      simp [results, Try.f54]
    · simp [results, Try.f54]
end Go.Proofs.Ytgeoffpcmkofkaa
/- The corners of the parts are enough: the ways round them are ways round all points. -/
namespace Go.Proofs.Ytgeoffpcmkofkaa
open Go Go.RowKit Fl

theorem LeftOf.of {α : Type} {D : α → α → α → Int} {x : α} : ∀ {l : List α}, (∀ (i : Nat) (u v : α), l[i]? = some v → l[i + 1]? = some u → 0 ≤ D u v x) → LeftOf D x l
  | [], _ => trivial
  | [_], _ => trivial
  | v :: u :: l, h => ⟨h 0 u v rfl rfl, LeftOf.of fun i a b h1 h2 => h (i + 1) a b (by simpa using h1) (by simpa using h2)⟩
theorem Rising.pairwise {s : Pts} (h : Rising s) : s.Pairwise fun a b => K a < K b := by
  rw [List.pairwise_iff_getElem]
  intro i j hi hj hij
  exact h i j _ _ (List.getElem?_eq_getElem hi) (List.getElem?_eq_getElem hj) hij
theorem Rising.back {s : Pts} (h : Rising s) : s.reverse.Pairwise fun a b => -K a < -K b := by
  rw [List.pairwise_reverse]
  exact h.pairwise.imp fun h => by omega
/-- There. -/
theorem there_ok {s : Pts} (h : Rising s) (hne : s ≠ []) : WayOK D K (· ∈ s) (wayOf D s) := by
  cases s with
  | nil => exact absurd rfl hne
  | cons p s => exact wayOf_ok plDK h.pairwise
/-- And back. -/
theorem back_ok {s : Pts} (h : Rising s) (hne : s ≠ []) : WayOK D (fun x => -K x) (· ∈ s) (wayOf D s.reverse) := by
  have hb := h.back
  cases hr : s.reverse with
  | nil => exact absurd (List.reverse_eq_nil_iff.1 hr) hne
  | cons p t =>
    rw [hr] at hb
    have := wayOf_ok plDK.neg hb
    have e : (fun x => x ∈ p :: t) = fun x => x ∈ s := by funext x; rw [← hr]; simp
    rw [e] at this
    exact this
theorem ring_has {s : Pts} (h : Rising s) {x : Pt} (hx : x ∈ wayOf D s ∨ x ∈ wayOf D s.reverse) : x ∈ ringL s := by
  have hne : s ≠ [] := by
    rintro rfl
    simp [wayOf] at hx
  unfold ringL
  split
  · rcases hx with hx | hx
    · exact wayOf_sub s.length s x (by rw [List.take_length]; exact hx)
    · exact List.mem_reverse.1 (wayOf_sub s.reverse.length s.reverse x (by rw [List.take_length]; exact hx))
  · rename_i h2
    have hT := there_ok h hne
    have hU := back_ok h hne
    have tl := way_len (s := s) (by omega)
    have ul := way_len (s := s.reverse) (by simp; omega)
    have m1 := ends_meet hT hU
    have hT' : WayOK D (fun x => - -K x) (· ∈ s) (wayOf D s) := by
      have e : (fun x : Pt => - -K x) = K := by funext x; omega
      rw [e]; exact hT
    have m2 := ends_meet hU hT'
    -- a way's points, but its last, and its last, with which the other begins
    have key : ∀ {A B : Pts}, 2 ≤ B.length → A.head? = B.getLast? → x ∈ A → x ∈ A.reverse.dropLast ∨ x ∈ B.reverse.dropLast := by
      intro A B hB hm hx
      cases A with
      | nil => simp at hx
      | cons a A =>
        rcases List.mem_cons.1 hx with rfl | hx
        · right
          have hr : B.reverse.head? = some x := by rw [List.head?_reverse, ← hm]; rfl
          cases hq : B.reverse with
          | nil => rw [hq] at hr; simp at hr
          | cons y Y =>
            rw [hq] at hr
            have : y = x := by simpa using hr
            subst this
            cases Y with
            | nil => have := congrArg List.length hq; simp at this; omega
            | cons z Z => simp
        · left
          rw [List.reverse_cons, List.dropLast_concat]
          simpa using hx
    rw [List.mem_append]
    rcases hx with hx | hx
    · exact key ul m1 hx
    · exact (key tl m2 hx).symm
/-- The i-th part, in its order. -/
def partS (l : Pts) (i : Nat) : Pts := disL ((l.drop (8 * i)).take 8)
/-- The corners of the parts. -/
def cornersL (l : Pts) : Pts := cat (fun i => ringL (partS l i)) ((l.length + 7) / 8)
def hullS (l : Pts) : Pts := disL (cornersL l)
section
variable {l : Pts}
theorem part_is (hc : ∀ x ∈ l, CdP x) (i : Nat) : IsDis ((l.drop (8 * i)).take 8) (partS l i) := disL_is fun x hx => hc x (List.mem_of_mem_drop (List.mem_of_mem_take hx))
theorem corner_sub (hc : ∀ x ∈ l, CdP x) {x : Pt} (h : x ∈ cornersL l) : x ∈ l := by
  obtain ⟨i, _, h2⟩ := cat_sub h
  exact List.mem_of_mem_drop (List.mem_of_mem_take (((part_is hc i).mem x).1 (ring_sub h2)))
theorem corner_cd (hc : ∀ x ∈ l, CdP x) : ∀ x ∈ cornersL l, CdP x := fun x hx => hc x (corner_sub hc hx)
theorem hull_is (hc : ∀ x ∈ l, CdP x) : IsDis (cornersL l) (hullS l) := disL_is (corner_cd hc)
theorem in_part {x : Pt} (h : x ∈ l) : ∃ i, i < (l.length + 7) / 8 ∧ x ∈ (l.drop (8 * i)).take 8 := by
  obtain ⟨n, hn, rfl⟩ := List.mem_iff_getElem.1 h
  refine ⟨n / 8, by omega, ?_⟩
  have e : l[n] = ((l.drop (8 * (n / 8))).take 8)[n % 8]'(by simp; omega) := by
    simp only [List.getElem_take, List.getElem_drop]
    congr 1
    omega
  rw [e]
  exact List.getElem_mem _
theorem in_corners {x : Pt} {i : Nat} (hi : i < (l.length + 7) / 8) (h : x ∈ ringL (partS l i)) : x ∈ cornersL l := by
  simp only [cornersL, cat, List.mem_flatMap, List.mem_range]
  exact ⟨i, hi, h⟩
/-- What holds of the corners of the parts holds of all. -/
theorem all_left (hc : ∀ x ∈ l, CdP x) {u v : Pt} (h : ∀ c ∈ cornersL l, 0 ≤ D u v c) {x : Pt} (hx : x ∈ l) : 0 ≤ D u v x := by
  obtain ⟨i, hi, hx⟩ := in_part hx
  have hs := part_is hc i
  have hx' := (hs.mem x).2 hx
  have hne : partS l i ≠ [] := fun e => by rw [e] at hx'; simp at hx'
  rcases Int.le_total (K u) (K v) with huv | huv
  · exact enough affDK (there_ok hs.rising hne) huv (fun c hcm => h c (in_corners hi (ring_has hs.rising (.inl hcm)))) hx'
  · exact enough affDK.neg (back_ok hs.rising hne) (by omega) (fun c hcm => h c (in_corners hi (ring_has hs.rising (.inr hcm)))) hx'
/-- The least and the greatest are corners. -/
theorem all_low (hc : ∀ x ∈ l, CdP x) {k : Int} (h : ∀ c ∈ cornersL l, k ≤ K c) {x : Pt} (hx : x ∈ l) : k ≤ K x := by
  obtain ⟨i, hi, hx⟩ := in_part hx
  have hs := part_is hc i
  have hx' := (hs.mem x).2 hx
  have hne : partS l i ≠ [] := fun e => by rw [e] at hx'; simp at hx'
  have hw := there_ok hs.rising hne
  cases hm : (wayOf D (partS l i)).getLast? with
  | none => exact absurd (List.getLast?_eq_none_iff.1 hm) hw.some
  | some m =>
    have h1 := (hw.low m hm x hx').1
    have h2 := h m (in_corners hi (ring_has hs.rising (.inl (List.mem_of_getLast? hm))))
    omega
theorem all_top (hc : ∀ x ∈ l, CdP x) {k : Int} (h : ∀ c ∈ cornersL l, K c ≤ k) {x : Pt} (hx : x ∈ l) : K x ≤ k := by
  obtain ⟨i, hi, hx⟩ := in_part hx
  have hs := part_is hc i
  have hx' := (hs.mem x).2 hx
  have hne : partS l i ≠ [] := fun e => by rw [e] at hx'; simp at hx'
  have hw := there_ok hs.rising hne
  cases hm : wayOf D (partS l i) with
  | nil => exact absurd hm hw.some
  | cons t r =>
    have h1 := hw.top t r hm x hx'
    have h2 := h t (in_corners hi (ring_has hs.rising (.inl (by rw [hm]; simp))))
    omega
theorem hull_ne (hc : ∀ x ∈ l, CdP x) (hl : l ≠ []) : hullS l ≠ [] := by
  intro e
  cases l with
  | nil => exact hl rfl
  | cons a t =>
    have hs := hull_is hc
    have h : ∀ c ∈ cornersL (a :: t), K a + 1 ≤ K c := fun c hcm => by
      have := (hs.mem c).2 hcm
      rw [e] at this
      simp at this
    have := all_low hc h (x := a) (by simp)
    omega
/-- The way there is one round all points. -/
theorem hull_there (hc : ∀ x ∈ l, CdP x) (hl : l ≠ []) : WayOK D K (· ∈ l) (wayOf D (hullS l)) := by
  have hs := hull_is hc
  have hw := there_ok hs.rising (hull_ne hc hl)
  have hsub : ∀ x ∈ wayOf D (hullS l), x ∈ l := fun x hx => corner_sub hc ((hs.mem x).1 (hw.part x hx))
  refine ⟨hw.turns, hw.falls, fun x hx => LeftOf.of fun i u v h1 h2 => ?_, hsub, hw.some, fun t r e x hx => ?_, fun m hm x hx => ?_⟩
  · exact all_left hc (fun c hcm => (hw.left c ((hs.mem c).2 hcm)).get i h1 h2) hx
  · exact all_top hc (fun c hcm => hw.top t r e c ((hs.mem c).2 hcm)) hx
  · exact ⟨all_low hc (fun c hcm => (hw.low m hm c ((hs.mem c).2 hcm)).1) hx, fun e => K_inj (hc x hx) (hc m (hsub m (List.mem_of_getLast? hm))) e⟩
theorem hull_back (hc : ∀ x ∈ l, CdP x) (hl : l ≠ []) : WayOK D (fun x => -K x) (· ∈ l) (wayOf D (hullS l).reverse) := by
  have hs := hull_is hc
  have hw := back_ok hs.rising (hull_ne hc hl)
  have hsub : ∀ x ∈ wayOf D (hullS l).reverse, x ∈ l := fun x hx => corner_sub hc ((hs.mem x).1 (hw.part x hx))
  refine ⟨hw.turns, hw.falls, fun x hx => LeftOf.of fun i u v h1 h2 => ?_, hsub, hw.some, fun t r e x hx => ?_, fun m hm x hx => ?_⟩
  · exact all_left hc (fun c hcm => (hw.left c ((hs.mem c).2 hcm)).get i h1 h2) hx
  · have := all_low hc (k := K t) (fun c hcm => by have := hw.top t r e c ((hs.mem c).2 hcm); omega) hx
    omega
  · have := all_top hc (k := K m) (fun c hcm => by have := (hw.low m hm c ((hs.mem c).2 hcm)).1; omega) hx
    exact ⟨by omega, fun e => K_inj (hc x hx) (hc m (hsub m (List.mem_of_getLast? hm))) (by omega)⟩
end
end Go.Proofs.Ytgeoffpcmkofkaa
/- The ring of corners: what it is, over all points of the list. -/
namespace Go.Proofs.Ytgeoffpcmkofkaa
open Go Go.RowKit Fl

/-- All that is told of a ring of two corners or more. -/
structure RingOK (l R : Pts) : Prop where
  len : 2 ≤ R.length
  sub : ∀ x ∈ R, x ∈ l
  nodup : ∀ (i j : Nat) (x : Pt), R[i]? = some x → R[j]? = some x → i = j
  tow : ∀ (i : Nat) (u v : Pt), R[i]? = some u → R[(i + 1) % R.length]? = some v → Towards D K (· ∈ l) u v
  turns : 3 ≤ R.length → ∀ (i : Nat) (a b c : Pt), R[i]? = some a → R[(i + 1) % R.length]? = some b → R[(i + 2) % R.length]? = some c → 0 < D a b c
  first : ∀ f, R[0]? = some f → ∀ x ∈ l, K f ≤ K x
  all : ∀ x ∈ l, ∀ k ∈ l, Towards D K (· ∈ l) x k → x ∈ R
section
variable {α : Type} {D : α → α → α → Int} {K : α → Int} {Seen : α → Prop}
theorem Rises.mono {r : List α} (h : Rises D K Seen r) : ∀ (d i : Nat) (u v : α), r[i]? = some u → r[i + d + 1]? = some v → K u < K v
  | 0, i, u, v, h1, h2 => h.rise i u v h1 h2
  | d + 1, i, u, v, h1, h2 => by
    have hl : i + d + 1 < r.length := by
      have := (List.getElem?_eq_some_iff.1 h2).1
      omega
    have e : r[i + d + 1]? = some r[i + d + 1] := List.getElem?_eq_getElem hl
    have a := h.mono d i u _ h1 e
    have b := h.rise (i + d + 1) _ v e h2
    omega
theorem Rises.lt {r : List α} (h : Rises D K Seen r) {i j : Nat} {u v : α} (h1 : r[i]? = some u) (h2 : r[j]? = some v) (hij : i < j) : K u < K v :=
  h.mono (j - i - 1) i u v h1 (by rw [show i + (j - i - 1) + 1 = j by omega]; exact h2)
/-- A side of the way there leads towards its end. -/
theorem Rises.tow (hP : Pl D K) {T : List α} (hT : Rises D K Seen T) (first : ∀ f, T[0]? = some f → ∀ j, Seen j → K f ≤ K j) {i : Nat} {x k : α} (e1 : T[i]? = some x) (e2 : T[i + 1]? = some k) : Towards D K Seen x k := by
  obtain ⟨h1, h2, h3⟩ := in_corner hP hT first e1 e2
  exact ⟨h2, fun _ => h3, fun h => by omega, by omega⟩
theorem Towards.neg {x k : α} (h : Towards D (fun x => -K x) Seen x k) : Towards D K Seen x k :=
  ⟨h.left, fun hk j hj hz hlt => h.backward (by omega) j hj hz (by omega), fun hk j hj hz hlt => h.ahead (by omega) j hj hz (by omega), fun e => h.apart (by omega)⟩
theorem Round.tow (hP : Pl D K) {T U : List α} {p q : Nat} (h : Round T U p q) (hT : Rises D K Seen T) (hU : Rises D (fun x => -K x) Seen U)
    (fT : ∀ f, T[0]? = some f → ∀ j, Seen j → K f ≤ K j) (fU : ∀ f, U[0]? = some f → ∀ j, Seen j → -K f ≤ -K j) {i : Nat} (hi : i < p + q) {u v : α} (e1 : (ring T U p q)[i]? = some u) (e2 : (ring T U p q)[(i + 1) % (p + q)]? = some v) : Towards D K Seen u v := by
  rw [h.at hi] at e1
  rw [h.next hi] at e2
  by_cases hp : i < p
  · rw [if_pos hp] at e1
    rw [if_pos (by omega)] at e2
    exact hT.tow hP fT e1 e2
  · rw [if_neg hp] at e1
    rw [if_neg (by omega)] at e2
    exact (hU.tow hP.neg fU e1 (by rw [show i - p + 1 = i + 1 - p by omega]; exact e2)).neg
/-- No corner comes twice. -/
theorem Round.nodup (hP : Pl D K) (hA : Aff D K) {T U : List α} {p q : Nat} (h : Round T U p q) (hT : Rises D K Seen T) (hU : Rises D (fun x => -K x) Seen U)
    (fT : ∀ f, T[0]? = some f → ∀ j, Seen j → K f ≤ K j) {i j : Nat} (hij : i < j) (hj : j < p + q) {x : α} (e1 : (ring T U p q)[i]? = some x) (e2 : (ring T U p q)[j]? = some x) : False := by
  have p1 := h.p1
  have q1 := h.q1
  rw [h.at (by omega)] at e1
  rw [h.at hj] at e2
  by_cases hjp : j < p
  · rw [if_pos (by omega)] at e1
    rw [if_pos hjp] at e2
    have := hT.lt e1 e2 hij
    omega
  · rw [if_neg hjp] at e2
    by_cases hip : i < p
    · rw [if_pos hip] at e1
      have get : ∀ {l : List α} {k : Nat}, k < l.length → ∃ z, l[k]? = some z := fun hk => ⟨_, List.getElem?_eq_getElem hk⟩
      by_cases hj0 : j = p
      · rw [hj0, Nat.sub_self, ← h.join] at e2
        have := hT.lt e1 e2 hip
        omega
      · by_cases hi0 : i = 0
        · subst hi0
          rw [← h.close] at e1
          have := hU.lt e2 e1 (by omega)
          omega
        · obtain ⟨a, ha⟩ := get (l := T) (k := i - 1) (by rw [h.lenT]; omega)
          obtain ⟨b, hb⟩ := get (l := T) (k := i + 1) (by rw [h.lenT]; omega)
          obtain ⟨c, hc⟩ := get (l := U) (k := j - p - 1) (by rw [h.lenU]; omega)
          have e1' : T[i - 1 + 1]? = some x := by rw [show i - 1 + 1 = i by omega]; exact e1
          have e2' : U[j - p - 1 + 1]? = some x := by rw [show j - p - 1 + 1 = j - p by omega]; exact e2
          have sa := hT.part a (List.mem_of_getElem? ha)
          have sc := hU.part c (List.mem_of_getElem? hc)
          have d1 := hT.left (i - 1) a x c ha e1' sc
          have d2 := hU.left (j - p - 1) c x a hc e2' sa
          have r1 := hP.rot a x c
          have r2 := hP.rot x c a
          have r3 := hP.swp c x a
          have r4 := hP.swp a c x
          refine no_between hP hA (hT.tow hP fT e1 hb) sa sc (hT.rise _ a x ha e1') (by have := hU.rise _ c x hc e2'; omega) (by omega)
    · rw [if_neg hip] at e1
      have := hU.lt e1 e2 (by omega)
      omega
end
theorem ring_len {s : Pts} (h2 : ¬s.length < 2) {T U : Pts} (hT : T = (wayOf D s).reverse) (hU : U = (wayOf D s.reverse).reverse) : ringL s = ring T U (T.length - 1) (U.length - 1) := by
  unfold ringL ring
  rw [if_neg h2, List.dropLast_eq_take, List.dropLast_eq_take, hT, hU]
theorem ring_ok {l : Pts} (hc : ∀ x ∈ l, CdP x) {a b : Pt} (ha : a ∈ l) (hb : b ∈ l) (hab : K a < K b) : RingOK l (ringL (hullS l)) := by
  have hl : l ≠ [] := fun e => by rw [e] at ha; simp at ha
  have hw := hull_there hc hl
  have hu := hull_back hc hl
  have s2 : ¬(hullS l).length < 2 := by
    intro h
    have h1 := hw.two ha hb hab
    have h2 : ∃ z, hullS l = [z] := by
      cases hs : hullS l with
      | nil => exact absurd hs (hull_ne hc hl)
      | cons z t =>
        cases t with
        | nil => exact ⟨z, rfl⟩
        | cons y t => rw [hs] at h; simp at h; omega
    obtain ⟨z, hz⟩ := h2
    rw [hz] at h1
    simp [wayOf, pops] at h1
  have hr := round_of hw hu ha hb hab
  have eR := ring_len s2 (T := (wayOf D (hullS l)).reverse) (U := (wayOf D (hullS l).reverse).reverse) rfl rfl
  rw [List.length_reverse, List.length_reverse] at eR
  have hT := hw.rises
  have hU := hu.rises
  have fT : ∀ f, (wayOf D (hullS l)).reverse[0]? = some f → ∀ j, j ∈ l → K f ≤ K j := fun f e j hj => by
    rw [← List.head?_eq_getElem?, List.head?_reverse] at e
    exact (hw.low f e j hj).1
  have fU : ∀ f, (wayOf D (hullS l).reverse).reverse[0]? = some f → ∀ j, j ∈ l → -K f ≤ -K j := fun f e j hj => by
    rw [← List.head?_eq_getElem?, List.head?_reverse] at e
    exact (hu.low f e j hj).1
  have hlen := hr.length
  rw [eR]
  have inj : ∀ x ∈ l, ∀ y, y ∈ l → K y = K x → y = x := fun x hx y hy e => K_inj (hc y hy) (hc x hx) e
  refine ⟨by rw [hlen]; have := hr.p1; have := hr.q1; omega, fun x hx => ?_, fun i j x e1 e2 => ?_, fun i u v e1 e2 => ?_, fun h3 i a b c e1 e2 e3 => ?_, fun f e x hx => ?_, fun x hx k hk ht => ?_⟩
  · rcases List.mem_append.1 hx with h | h
    · exact hT.part x (List.mem_of_mem_take h)
    · exact hU.part x (List.mem_of_mem_take h)
  · have l1 := (List.getElem?_eq_some_iff.1 e1).1
    have l2 := (List.getElem?_eq_some_iff.1 e2).1
    rw [hlen] at l1 l2
    rcases Nat.lt_trichotomy i j with h | h | h
    · exact (hr.nodup plDK affDK hT hU fT h l2 e1 e2).elim
    · exact h
    · exact (hr.nodup plDK affDK hT hU fT h l1 e2 e1).elim
  · have l1 := (List.getElem?_eq_some_iff.1 e1).1
    rw [hlen] at l1 e2
    exact hr.tow plDK hT hU fT fU l1 e1 e2
  · have l1 := (List.getElem?_eq_some_iff.1 e1).1
    rw [hlen] at l1 e2 e3 h3
    exact hr.turns plDK hT hU h3 l1 e1 e2 e3
  · rw [hr.at (by have := hr.p1; omega), if_pos (by have := hr.p1; omega)] at e
    exact fT f e x hx
  · have hm : x ∈ wayOf D (hullS l) ∨ x ∈ wayOf D (hullS l).reverse := by
      rcases Int.lt_or_le (K x) (K k) with h | h
      · exact .inl (corner_in plDK affDK hw hx h ht.left (ht.ahead h) (fun y hy e => inj x hx y hy e))
      · have h' : K k < K x := by have := ht.apart; omega
        exact .inr (corner_in plDK.neg affDK.neg hu (x := x) (k := k) hx (by omega) ht.left (fun j hj hz hlt => ht.backward h' j hj hz (by omega)) (fun y hy e => inj x hx y hy (by omega)))
    have := ring_has (hull_is hc).rising hm
    rw [eR] at this
    exact this
end Go.Proofs.Ytgeoffpcmkofkaa
/- The same with no list at all. -/
namespace Go.Proofs.Ytgeoffpcmkofkaa
open Go Go.Conc Go.RowKit Fl Go.Maps
set_option maxRecDepth 100000

theorem none_WR {w : World} {G : Nat} {FS : FuncId → Prop} (hG : G ≤ w.heap.size) : WR G FS (fun _ => False) (fun _ _ => False) w w :=
  ⟨fun _ _ h => h.elim, fun _ _ _ h => h.elim, fun _ _ _ h => h.elim, fun _ h => h.elim, hG, fun _ _ => rfl⟩
theorem around_runsN {N : Nat} {out : Pts} {w : World} (hC : AroundN out) (hG : GN ≤ w.heap.size) (base : List Frame) :
    Runs Try.prog (· < N) base (FinV GN (FSof fsB) (fun _ => False) Try.prog (· < N) (PostV Try.prog 70 fun v w' => RowQ 0 v w' out)) (fun _ => False) (Frame.enter Try.prog 70 #[.slice none 0 0] .normal) base w := by
  refine runs_of_calls (G := GN) (FS := FSof fsB) (Sh := fun _ => False) (Q := fun v w' => RowQ 0 v w' out) (openOK (Nat.le_refl _)) bodies noEarly fs70 (B := fun _ _ => False) (xs := #[.slice none 0 0]) ?_ (none_WR hG) (fun r r' hb => hb.elim) (fun v w T h => rowQ_on h) (fun T => hC (on w T)) base
  exact .cons (.sliceNil _ _) .nil
theorem around_finN {N : Nat} {out : Pts} {O : Nat → Prop} {fr : Frame} {w : World} (hm : fr.mode = .returning) (h : ∀ w2, Keeps O (· < N) w w2 → FinV GN (FSof fsB) (fun _ => False) Try.prog (· < N) (PostV Try.prog 70 fun v w' => RowQ 0 v w' out) O fr w2) :
    ∃ v', RowO O w v' out ∧ ∀ main w2 c rest, stepG Try.prog main (G fr (c :: rest)) w2 = .go (G (c.finish v') rest) w2 #[] := by
  obtain ⟨v', h1, h2⟩ := fin_ret2 bodies fs70 h hm
  obtain ⟨B, v, wl, q1, q2, q3, q4⟩ := h1 w (Keeps.refl _ _ _)
  exact ⟨v', row_fin (fun r h => h.elim) q1 q2 q3 q4, fun main w2 c rest => h2 w2 main c rest⟩
/-- The main goroutine calls it. -/
theorem A.aroundN {Post : Value → World → Prop} {out : Pts} {w : World} {x : Frame} {cs : List Frame} (hC : AroundN out) (hG : GN ≤ w.heap.size)
    (h : ∀ v w', RowO (w.heap.size ≤ ·) w' v out → Kept w w' → A Try.prog Post (x.finish v) cs w') :
    A Try.prog Post (Frame.enter Try.prog 70 #[.slice none 0 0] .normal) (x :: cs) w := by
  have hR := around_runsN (N := w.heap.size) hC hG (x :: cs)
  refine A.of_runs hR (fun r hr => hr.elim (fun h => h.elim) id) fun O' fr w' hm hf q1 q2 q3 q4 q5 q6 => ?_
  obtain ⟨v', h1, h2⟩ := around_finN hm hf
  refine .ctl (fun w2 => h2 true w2 x cs) (h v' w' ?_ ⟨q4, q5, q3, fun r hr => q6 r hr fun h => h.elim⟩)
  exact h1.imp id fun ⟨g, cap, e1, e2, e3⟩ => ⟨g, cap, e1, (q1 g e2).elim (fun h => h.elim) id, e3⟩

set_option maxHeartbeats 800000 in
theorem cut_nil (w : World) : Calls Try.prog 90 #[.slice none 0 0] w fun e w' => ∃ v, e = .returned v ∧ Hid (CutI 0 0 0 w w' v 0) := by
  go_enter Try.func90, Try.ntmps90
  go_wp2_with fail
  go_loop [3, 4] (fun v i => v = .slice none 0 0 ∧ i = .int .i64 0) (fun _ _ => 0)
  case atStart => exact ⟨rfl, rfl⟩
  case round =>
    obtain ⟨rfl, rfl⟩ := hrel
    go_wp2_with fail
    go_ret
    exact ⟨_, rfl, New.refl _, World.ownsRow_nil _ _ _ _⟩
set_option maxHeartbeats 1000000 in
theorem A.partsN {Post : Value → World → Prop} {w : World} {x : Frame} {cs : List Frame} (h : ∀ v w', Out71 w w' v [] → A Try.prog Post (x.finish v) cs w') :
    A Try.prog Post (Frame.enter Try.prog 71 #[.slice none 0 0] .normal) (x :: cs) w := by
  rw [Conc.enter_at _ Try.func71 (c := Try.f71.body.getD .skip) rfl]
  walk_nrmf Try.f71
  refine .ctl (fun _ => stepG_seq) ?_
  refine .ctl (fun _ => stepG_region) ?_
  walk_nrm
  refine .mov (.slice none 0 0) rfl rfl (.inr rfl) rfl (by decide) ?_
  walk_nrm
  refine .ctl (fun _ => stepG_region_end) ?_
  refine .ctl (fun _ => stepG_seq) ?_
  refine .ctl (fun _ => stepG_region) ?_
  walk_nrm
  refine .mov (.slice none 0 0) rfl rfl (.inr rfl) rfl (by decide) ?_
  walk_nrm
  refine .ctl (fun _ => stepG_region_end) ?_
  refine .ctl (fun _ => stepG_seq) ?_
  refine .ctl (fun _ => stepG_seq) ?_
  refine .ctl (fun _ => stepG_region) ?_
  walk_nrm
  refine .mov (.slice none 0 0) rfl rfl (.inl rfl) rfl (by decide) ?_
  walk_nrm
  refine .ent (f := 90) (xs := #[.slice none 0 0]) rfl rfl (by decide) (fun w' => by go_simp) (fun w' => by simp [go_sem, callFunc, Try.func90, Try.f90]) ?_
  refine A.call bodP noEarly fs90 Try.func90 (c := Try.f90.body.getD .skip) rfl (Q := fun v w' => CutK 0 0 0 w w' v 0) (fun v w1 w2 k q => ⟨q.kept.same k, owns_same q.own k⟩) (fun w' hs => (cut_nil w').mono ?_) fun pcv w1 hq => ?_
  · rintro e w2 ⟨v, rfl, H⟩
    refine ⟨v, rfl, H.out.new.kept0 hs, ?_⟩
    have := H.out.own
    rw [show w'.heap.size = w.heap.size by rw [hs.heap]] at this
    exact this
  rw [Frame.finish_at]
  walk_nrm
  -- the others are started
  have hsz1 := hq.kept.size
  refine A.of_MB (Fin := Fin71 x cs w (([] : Pts))) (fun w2 hs => ?_) fun a w' hf => ?_
  · have hpcv : ∃ b cap, pcv = .slice b (0) cap := by
      rcases hq.own.2 with ⟨e, e2⟩ | ⟨g, cap, cur, e1, _⟩
      · exact ⟨none, 0, by rw [e, e2]⟩
      · exact ⟨_, cap, e1⟩
    refine .val (.int .i64 (0 : Nat)) rfl rfl (by decide) (fun w3 _ => ?_) (fun w3 _ => ?_) ?_
    · obtain ⟨b, cap, rfl⟩ := hpcv
      go_simp
    · obtain ⟨b, cap, rfl⟩ := hpcv
      simp [go_sem]
    walk_nrm
    refine .mov (.int .i64 0) rfl rfl (.inl rfl) rfl (by decide) ?_
    walk_nrm
    refine .ctl rfl rfl (fun _ => stepG_region_end) ?_
    refine .ctl rfl rfl (fun _ => stepG_block) ?_
    refine .ctl rfl rfl (fun _ => stepG_loop) ?_
    have hs2 : w2.heap.size = w1.heap.size := by rw [hs.heap]
    refine start71 (N := w1.heap.size) (ws := w2) (outs := fun _ => []) (parts := partV 0 0 0) (m := 0) (by omega) (by simp [cat]) (fun hm => ?_) (fun i _ => ⟨_, _, _, rfl⟩) (fun i hi ch w3 hold hle => ?_) (fun O w3 pv cl av tmps todo hM ht => ⟨tmps, todo, av, rfl, ht, hq.kept.trans ⟨hM.m0.os.trans hs.os, hM.m0.output.trans hs.output, hM.m0.size, fun r hr => by rw [hM.m0.old r hr, hs.heap]⟩, own_base hsz1 hM.a, hM.ai⟩) (0) 0 (by omega) _ w2 _ [] _ _ _ _ _ _ _ _ _ _ _ _ _ _ rfl ?_ ?_ ?_
    · omega
    · omega
    · exact ⟨⟨fun r h => h.elim, fun _ _ => rfl, by rw [hs2]; exact Nat.le_refl _, rfl, rfl⟩, ⟨rfl, .inl ⟨rfl, rfl⟩⟩, (fun g hg => by cases hg), ⟨rfl, .inl ⟨rfl, rfl⟩⟩, (fun g hg => by cases hg), (fun g hg => by cases hg), (fun g hg => by cases hg)⟩
    · exact ⟨(fun i c _ hc => by simp at hc), (fun c o hc => by cases hc), (fun i i' c hc => by simp at hc)⟩
    · exact fun i c hc => by simp at hc
  · obtain ⟨tmps, todo, av, rfl, ht, hO⟩ := hf
    refine ⟨_, _, rfl, ?_⟩
    refine .ctl (fr1 := x.finish av) (cs1 := cs) (fun w3 => ?_) (h av w' hO)
    refine stepG_leave rfl rfl Try.func71 ?_ ?_
    · subst ht
      simp [results, Try.f71]
    · simp [results, Try.f71]
end Go.Proofs.Ytgeoffpcmkofkaa
/- hull.Of, of no points. -/
namespace Go.Proofs.Ytgeoffpcmkofkaa
open Go Go.Conc Go.RowKit Fl Go.Maps
set_option maxRecDepth 100000
attribute [local go_sem ↓] Go.wp_at_zero Go.wp_at_succ

/-- A list without points. -/
def NoPts (w : World) (lv : Value) : Prop := lv = .slice none 0 0 ∨ ∃ r0 cap c, lv = .slice (some ⟨r0, 0, none⟩) 0 cap ∧ w.heap[r0]? = some (.cells c 23 (0, 0)) ∧ (∀ x ∈ c.toList, ∃ n, x = .int .i64 n) ∧ GN ≤ r0
theorem NoPts.same {w w' : World} {lv : Value} (h : NoPts w lv) (k : Same w w') : NoPts w' lv := h.imp id fun ⟨r0, cap, c, h1, h3, h4⟩ => ⟨r0, cap, c, h1, by rw [k.heap]; exact h3, h4⟩
theorem NoPts.kept {w w' : World} {lv : Value} (h : NoPts w lv) (k : Kept w w') : NoPts w' lv := h.imp id fun ⟨r0, cap, c, h1, h3, h4⟩ => ⟨r0, cap, c, h1, by rw [k.block r0 (Array.getElem?_eq_some_iff.1 h3).1]; exact h3, h4⟩
theorem first_E {w : World} {lv : Value} (h : NoPts w lv) : Calls Try.prog 69 #[lv] w fun e w' => ∃ b, e = .returned (.map (some b)) ∧ Hid (New w w' ∧ w.heap.size ≤ b ∧ MapI w' b ([] : Pts).length (numN [] ([] : Pts).length)) := by
  rcases h with rfl | ⟨r0, cap, c, rfl, h3, _, _⟩
  · exact first_nil w
  · exact first_some r0 cap [] w (fun i hi => by simp at hi) (Array.getElem?_eq_some_iff.1 h3).1 (by simp) (by simp)
theorem dis_nil : IsDis [] [] := ⟨fun i j x y h => by simp at h, fun x => Iff.rfl, Nat.le_refl _⟩
theorem A.partsE {Post : Value → World → Prop} {w : World} {lv : Value} {x : Frame} {cs : List Frame} (hlv : NoPts w lv) (h : ∀ v w', Out71 w w' v [] → A Try.prog Post (x.finish v) cs w') : A Try.prog Post (Frame.enter Try.prog 71 #[lv] .normal) (x :: cs) w := by
  rcases hlv with rfl | ⟨r0, cap, c, rfl, h3, h4, h5⟩
  · exact A.partsN h
  · exact A.parts (off := 0) (n := 0) (outs := fun _ => []) (by omega) (by omega) h3 h4 h5 (fun i hi => by omega) (by simp [cat]) (by simp) h
theorem A.aroundE {Post : Value → World → Prop} {w1 w : World} {v : Value} {x : Frame} {cs : List Frame} (hO : Out71 w1 w v []) (hG : GN ≤ w1.heap.size)
    (h : ∀ v w', (∃ ad c, v = .slice ad 0 c) → Kept w w' → A Try.prog Post (x.finish v) cs w') : A Try.prog Post (Frame.enter Try.prog 70 #[v] .normal) (x :: cs) w := by
  rcases hO.row.2 with ⟨rfl, _⟩ | ⟨g, cap, cur, rfl, hb, hg, _⟩
  · refine A.aroundN Ytgeoffpcmkofkaa.aroundN (Nat.le_trans hG hO.kept.size) fun v w' hR hK => h v w' ?_ hK
    rcases hR with ⟨rfl, _⟩ | ⟨g, c, rfl, _⟩
    · exact ⟨none, 0, rfl⟩
    · exact ⟨_, c, rfl⟩
  · refine A.around (off := 0) (n := 0) (out := ringL []) (aroundC (l := []) (s := []) (fun i hi => by simp at hi) (by simp) (by simp) dis_nil) hg (hO.ints g rfl cur 23 (0, 0) hg) (by omega) fun v w' hR q1 q2 q3 q4 => h v w' ?_ ⟨q2, q3, q1, q4⟩
    rcases hR with ⟨rfl, _⟩ | ⟨g, c, rfl, _⟩
    · exact ⟨none, 0, rfl⟩
    · exact ⟨_, c, rfl⟩
set_option maxHeartbeats 1600000 in
theorem rest54E (lv : Value) (ad : Option Addr) (cap b : Nat) (w : World) (h1 h2 h3 h4 : Value) :
    c54.wp Try.prog (fun e a w' => (e = .normal ∨ e = .ret) ∧ ∃ v, a.tmps.getD 2 undef = v ∧ Hid (Kept w w' ∧ w'.ownsRow w.heap.size 3 1 v 0 []))
      { tmps := #[lv, undef, .slice none 0 0, .map (some b), .slice ad 0 cap, undef, undef, undef, h1, h2, h3, h4, .slice ad 0 cap, undef, undef, undef, undef, undef, undef, undef, undef, undef, undef, undef, undef, undef, undef, undef, undef, undef, undef], defers := [] } w := by
  simp only [c54, Try.f54]
  obtain ⟨i0, hi0, hz0, hz1, hz2⟩ := info_parts Try.info3
  obtain ⟨w1, k1, k2, k3⟩ := run_make_full (P := Try.prog) w w.heap.size 46 3 i0 _ 1 Try.underlying46 hi0 hz0 hz1 .i64 .i64 0 (by omega) (by unfold maxLen; omega) (Nat.le_refl _)
  have HN : Hid (Kept w w1 ∧ w1.ownsRow w.heap.size 3 1 (.slice (some ⟨w.heap.size, 0, none⟩) 0 0) 0 []) := ⟨⟨k3.os, k3.output, k3.size, fun r hr => k3.block r hr (by simp)⟩, by simpa [madeCells] using k2⟩
  have k1' : (Instr.makeSlice 46 (.int .i64 0) (.int .i64 0)).run Try.prog w = .ok (.slice (some ⟨w.heap.size, 0, none⟩) 0 0) w1 := k1
  clear k1 k2 k3 hi0 hz0 hz1 hz2
  go_wp2_with fail
  go_loop [18] (fun i => i = .int .i64 0) (fun _ => 0)
  case atStart => rfl
  case round =>
    subst hrel
    go_wp2_with fail
set_option maxHeartbeats 1000000 in
theorem A.hullOfE {Post : Value → World → Prop} {lv : Value} {w : World} {x : Frame} {cs : List Frame} (hlv : NoPts w lv) (hG : GN ≤ w.heap.size) (h : ∀ v w', OutN w w' v [] → A Try.prog Post (x.finish v) cs w') :
    A Try.prog Post (Frame.enter Try.prog 54 #[lv] .normal) (x :: cs) w := by
  rw [Conc.enter_at _ Try.func54 (c := Try.f54.body.getD .skip) rfl]
  walk_nrmf Try.f54
  refine .ctl (fun _ => stepG_seq) ?_
  refine .ctl (fun _ => stepG_region) ?_
  walk_nrm
  refine .mov (.slice none 0 0) rfl rfl (.inr rfl) rfl (by decide) ?_
  walk_nrm
  refine .ctl (fun _ => stepG_region_end) ?_
  refine .ctl (fun _ => stepG_seq) ?_
  refine .ctl (fun _ => stepG_region) ?_
  walk_nrm
  refine .mov lv rfl rfl (.inl rfl) rfl (by decide) ?_
  walk_nrm
  refine .ent (f := 69) (xs := #[lv]) rfl rfl (by decide) (fun w' => by go_simp) (fun w' => by simp [go_sem, callFunc, Try.func69, Try.f69]) ?_
  refine A.call bodP noEarly fs69 Try.func69 (c := Try.f69.body.getD .skip) rfl (Q := fun v w' => FnK w w' v []) (fun v w1 w2 k q => ⟨q.kept.same k, let ⟨b, h1, h2, h3⟩ := q.map; ⟨b, h1, h2, h3.heap (by rw [k.heap])⟩⟩) (fun w' hs' => (first_E (hlv.same hs')).mono ?_) fun mv1 w1 hq => ?_
  · rintro e w2 ⟨b, rfl, H⟩
    refine ⟨_, rfl, H.out.1.kept0 hs', b, rfl, ?_, H.out.2.2⟩
    have := H.out.2.1
    rwa [hs'.heap] at this
  obtain ⟨bm, rfl, hbm, hmap⟩ := hq.map
  rw [Frame.finish_at]
  walk_nrm
  refine .mov (.map (some bm)) rfl rfl (.inr rfl) rfl (by decide) ?_
  walk_nrm
  refine .ctl (fun _ => stepG_region_end) ?_
  refine .ctl (fun _ => stepG_seq) ?_
  refine .ctl (fun _ => stepG_region) ?_
  walk_nrm
  refine .mov lv rfl rfl (.inl rfl) rfl (by decide) ?_
  walk_nrm
  refine .ent (f := 71) (xs := #[lv]) rfl rfl (by decide) (fun w' => by go_simp) (fun w' => by simp [go_sem, callFunc, Try.func71, Try.f71]) ?_
  refine A.partsE (hlv.kept hq.kept) fun v1 w2 hO => ?_
  have hG2 : GN ≤ w2.heap.size := Nat.le_trans hG (Nat.le_trans hq.kept.size hO.kept.size)
  have hq1 := hq.kept.size
  rw [Frame.finish_at]
  walk_nrm
  refine .ent (f := 70) (xs := #[v1]) rfl rfl (by decide) (fun w' => by go_simp) (fun w' => by simp [go_sem, callFunc, Try.func70, Try.f70]) ?_
  refine A.aroundE hO (Nat.le_trans hG hq.kept.size) fun v2 w3 hR hK3 => ?_
  obtain ⟨ad, c3, rfl⟩ := hR
  rw [Frame.finish_at]
  walk_nrm
  refine .mov (.slice ad 0 c3) rfl rfl (.inr rfl) rfl (by decide) ?_
  walk_nrm
  refine .ctl (fun _ => stepG_region_end) ?_
  have hk3 : Kept w w3 := (hq.kept.trans hO.kept).trans hK3
  refine A.rest bodP noEarly (b := base 54) Try.func54 rfl (c := c54) codeP54 rfl (Q := fun a w' => ∃ v, a.tmps.getD 2 undef = v ∧ OutN w w' v []) (fun a w1 w2 k q => ?_) (fun w' hs' => ?_) fun a' w' todo hd hQ => ?_
  · obtain ⟨v, h1, h2⟩ := q
    exact ⟨v, h1, h2.kept.same k, owns_same h2.row k⟩
  · refine Go.wp_mono (rest54E _ ad c3 bm w' _ _ _ _) fun e a w2 hh => ?_
    obtain ⟨h1, v, h2, h3⟩ := hh
    refine ⟨h1, v, h2, (hk3.same hs').trans h3.out.1, ?_⟩
    exact own_base (N := w.heap.size) (by have := (hk3.same hs').size; exact this) h3.out.2
  · obtain ⟨v, h1, h2⟩ := hQ
    refine .ctl (fr1 := x.finish v) (cs1 := cs) (fun w3 => ?_) (h v w' h2)
    obtain ⟨tmps, dfs⟩ := a'
    simp only at hd h1
    subst hd
    refine stepG_leave rfl rfl Try.func54 ?_ ?_
    · subst h1
      simp [results, Try.f54]
    · simp [results, Try.f54]
end Go.Proofs.Ytgeoffpcmkofkaa
/- plumb.Hull, beside goroutines that only leave. -/
namespace Go.Proofs.Ytgeoffpcmkofkaa
open Go Go.Conc Go.RowKit Fl Go.Maps
set_option maxRecDepth 100000

theorem fs50 : FSof fsI 50 := by decide
theorem PolyAt.heap {w w' : World} {ao : Option Addr} {l : Pts} (h : PolyAt w ao l) (e : w'.heap = w.heap) : PolyAt w' ao l := fun h0 => by
  obtain ⟨g, off, h1, h2, h3⟩ := h h0
  exact ⟨g, off, h1, h2.heap (by rw [e]), by rw [e]; exact h3⟩
set_option maxHeartbeats 1000000 in
theorem A.hull32 {Post : Value → World → Prop} {ao : Option Addr} {cap : Nat} {l : Pts} {w : World} {x : Frame} {cs : List Frame} {nums : List Value} (hpoly : PolyAt w ao l)
    (hgood : errL l = 0 → ∀ (w1 : World) (y : Frame), Kept w w1 → (∀ v w', OutN w1 w' v nums → A Try.prog Post (y.finish v) (x :: cs) w') → A Try.prog Post (Frame.enter Try.prog 54 #[.slice ao l.length cap] .normal) (y :: x :: cs) w1)
    (hbad : errL l ≠ 0 → ∀ w', Kept w w' → A Try.prog Post (x.finish (.tuple #[.slice none 0 0, .int .i64 (errL l)])) cs w')
    (h : errL l = 0 → ∀ v w', OutN w w' v nums → A Try.prog Post (x.finish (.tuple #[v, .int .i64 0])) cs w') :
    A Try.prog Post (Frame.enter Try.prog 32 #[.slice ao l.length cap] .normal) (x :: cs) w := by
  rw [Conc.enter_at _ Try.func32 (c := Try.f32.body.getD .skip) rfl]
  walk_nrmf Try.f32
  refine .ctl (fun _ => stepG_seq) ?_
  refine .ctl (fun _ => stepG_region) ?_
  walk_nrm
  refine .mov (.slice none 0 0) rfl rfl (.inr rfl) rfl (by decide) ?_
  walk_nrm
  refine .mov (.int .i64 0) rfl rfl (.inr rfl) rfl (by decide) ?_
  walk_nrm
  refine .ctl (fun _ => stepG_region_end) ?_
  refine .ctl (fun _ => stepG_seq) ?_
  refine .ctl (fun _ => stepG_seq) ?_
  refine .ctl (fun _ => stepG_region) ?_
  walk_nrm
  refine .mov (.slice ao l.length cap) rfl rfl (.inl rfl) rfl (by decide) ?_
  walk_nrm
  refine .ent (f := 50) (xs := #[.slice ao l.length cap]) rfl rfl (by decide) (fun w' => by go_simp) (fun w' => by simp [go_sem, callFunc, Try.func50, Try.f50]) ?_
  refine A.call bodP noEarly fs50 Try.func50 (c := Try.f50.body.getD .skip) rfl (Q := fun v w' => v = .int .i64 (errL l) ∧ Kept w w') (fun v w1 w2 k q => ⟨q.1, q.2.same k⟩) (fun w' hs' => (checkList_len ao cap l w' (hpoly.heap hs'.heap)).mono ?_) fun ev w1 hq => ?_
  · rintro e w2 ⟨rfl, H⟩
    exact ⟨_, rfl, rfl, H.out.kept0 hs'⟩
  obtain ⟨rfl, hK⟩ := hq
  rw [Frame.finish_at]
  walk_nrm
  refine .mov (.int .i64 (errL l)) rfl rfl (.inr rfl) rfl (by decide) ?_
  walk_nrm
  refine .ctl (fun _ => stepG_region_end) ?_
  refine .ctl (fun _ => stepG_seq) ?_
  refine .ctl (fun _ => stepG_region) ?_
  walk_nrm
  refine .mov (.int .i64 (errL l)) rfl rfl (.inl rfl) rfl (by decide) ?_
  walk_nrm
  refine .val (.bool (decide (errL l ≠ 0))) bodP.func rfl rfl (by decide) trivial (fun w' _ => ?_) ?_
  · simp [go_sem]
    by_cases he : errL l = 0 <;> simp [he]
  walk_nrm
  refine .ctl (fun _ => stepG_region_end) ?_
  by_cases he : errL l = 0
  · refine .ctl (fun _ => stepG_cond (t := false) (by simp [Act.eval, he])) ?_
    simp only [Bool.false_eq_true, if_false]
    refine .ctl (fun _ => stepG_skip) ?_
    refine .ctl (fun _ => stepG_seq) ?_
    refine .ctl (fun _ => stepG_region) ?_
    walk_nrm
    refine .mov (.slice ao l.length cap) rfl rfl (.inl rfl) rfl (by decide) ?_
    walk_nrm
    refine .ent (f := 54) (xs := #[.slice ao l.length cap]) rfl rfl (by decide) (fun w' => by go_simp) (fun w' => by simp [go_sem, callFunc, Try.func54, Try.f54]) ?_
    refine hgood he w1 _ hK fun v w2 hO => ?_
    rw [Frame.finish_at]
    walk_nrm
    refine .mov v rfl rfl (.inr rfl) rfl (by decide) ?_
    walk_nrm
    refine .mov (.int .i64 0) rfl rfl (.inr rfl) rfl (by decide) ?_
    walk_nrm
    refine .ctl (fun _ => stepG_region_end) ?_
    refine .ctl (fun _ => stepG_ret') ?_
    refine .ctl (fr1 := x.finish (.tuple #[v, .int .i64 0])) (cs1 := cs) (fun w3 => ?_) (h he v w2 ⟨hK.trans hO.kept, own_base hK.size hO.row⟩)
    refine stepG_leave rfl rfl Try.func32 ?_ ?_
    · simp [results, Try.f32]
    · simp [results, Try.f32]
  · refine .ctl (fun _ => stepG_cond (t := true) (by simp [Act.eval, he])) ?_
    simp only [if_true]
    refine .ctl (fun _ => stepG_seq) ?_
    refine .ctl (fun _ => stepG_region) ?_
    walk_nrm
    refine .mov (.int .i64 (errL l)) rfl rfl (.inl rfl) rfl (by decide) ?_
    walk_nrm
    refine .mov (.slice none 0 0) rfl rfl (.inr rfl) rfl (by decide) ?_
    walk_nrm
    refine .mov (.int .i64 (errL l)) rfl rfl (.inr rfl) rfl (by decide) ?_
    walk_nrm
    refine .ctl (fun _ => stepG_region_end) ?_
    refine .ctl (fun _ => stepG_ret') ?_
    refine .ctl (fr1 := x.finish (.tuple #[.slice none 0 0, .int .i64 (errL l)])) (cs1 := cs) (fun w3 => ?_) (hbad he w1 hK)
    refine stepG_leave rfl rfl Try.func32 ?_ ?_
    · simp [results, Try.f32]
    · simp [results, Try.f32]
theorem errL_zero {l : Pts} (h : errL l = 0) : l.length ≤ 40 ∧ ∀ x ∈ l, CdP x := by
  unfold errL at h
  split at h
  · cases h
  · rcases okE_vals l with ⟨_, h2⟩ | ⟨h1, _⟩
    · exact ⟨by omega, fun x hx => okB_cd h2 hx⟩
    · rw [h1] at h; cases h
theorem ring_ne {s : Pts} (h : s ≠ []) : ringL s ≠ [] := by
  unfold ringL
  split
  · exact h
  · intro e
    have h1 := way_len (s := s) (by omega)
    have h2 := (List.append_eq_nil_iff.1 e).1
    have h3 := congrArg List.length h2
    simp at h3
    omega
/-- A list of points, as it is handed in. -/
def RowL (w : World) (lv : Value) (l : Pts) : Prop := (lv = .slice none 0 0 ∧ l = []) ∨ ∃ r0 cap c, lv = .slice (some ⟨r0, 0, none⟩) l.length cap ∧ l.length ≤ cap ∧ w.heap[r0]? = some (.cells c 23 (0, 0)) ∧ (∀ x ∈ c.toList, ∃ n, x = .int .i64 n) ∧ GN ≤ r0 ∧ PtsIn c 0 l
theorem RowL.kept {w w' : World} {lv : Value} {l : Pts} (h : RowL w lv l) (k : Kept w w') : RowL w' lv l := h.imp id fun ⟨r0, cap, c, h1, h2, h5, h6⟩ => ⟨r0, cap, c, h1, h2, by rw [k.block r0 (Array.getElem?_eq_some_iff.1 h5).1]; exact h5, h6⟩
/-- The numbers of the corners. -/
def hullN (l : Pts) : List Value := if l = [] then [] else numsOf (numN l l.length) (ringL (hullS l))
theorem A.hull {Post : Value → World → Prop} {lv : Value} {l : Pts} {w : World} {x : Frame} {cs : List Frame} (hlv : RowL w lv l) (hG : GN ≤ w.heap.size)
    (hbad : errL l ≠ 0 → ∀ w', Kept w w' → A Try.prog Post (x.finish (.tuple #[.slice none 0 0, .int .i64 (errL l)])) cs w')
    (h : errL l = 0 → ∀ v w', OutN w w' v (hullN l) → A Try.prog Post (x.finish (.tuple #[v, .int .i64 0])) cs w') :
    A Try.prog Post (Frame.enter Try.prog 32 #[lv] .normal) (x :: cs) w := by
  rcases id hlv with ⟨rfl, rfl⟩ | ⟨r0, cap, c, rfl, h2, h5, h6, h7, h8⟩
  · exact A.hull32 (ao := none) (l := []) (cap := 0) (nums := []) (fun h0 => by simp at h0) (fun _ w1 y hK k => A.hullOfE (.inl rfl) (Nat.le_trans hG hK.size) k) hbad (fun he v w' hO => h he v w' (by simpa [hullN] using hO))
  · have hlt := (Array.getElem?_eq_some_iff.1 h5).1
    refine A.hull32 (nums := hullN l) (fun h0 => ⟨r0, 0, rfl, h8.at h5, hlt⟩) (fun he w1 y hK k => ?_) hbad h
    obtain ⟨h40, hcd⟩ := errL_zero he
    have h5' : w1.heap[r0]? = some (.cells c 23 (0, 0)) := by rw [hK.block r0 hlt]; exact h5
    by_cases hn : l = []
    · subst hn
      refine A.hullOfE (.inr ⟨r0, cap, c, rfl, h5', h6, h7⟩) (Nat.le_trans hG hK.size) fun v w' hO => k v w' (by simpa [hullN] using hO)
    · refine A.hullOf (ds := partS l) (s := hullS l) (by omega) h2 h5' h6 h7 h8 hcd (part_is hcd) (hull_is hcd) (ring_ne (hull_ne hcd hn)) fun v w' hO => k v w' ?_
      rw [hullN, if_neg hn]
      exact hO
end Go.Proofs.Ytgeoffpcmkofkaa
/- The first numbers of points. -/
namespace Go.Proofs.Ytgeoffpcmkofkaa
open Go Go.RowKit Fl

theorem numN_out {l : Pts} {k : Nat} (p : Pt) (h : l[k]? = none) : numN l (k + 1) p = numN l k p := by simp only [numN, h]
theorem numN_in {l : Pts} {k : Nat} (p : Pt) {q : Pt} (h : l[k]? = some q) : numN l (k + 1) p = if (numN l k q).isSome then numN l k p else setN (numN l k) q k p := by
  simp only [numN, h]
  split <;> rfl
theorem numN_none (l : Pts) : ∀ (k : Nat) (p : Pt), numN l k p = none → ∀ i, i < k → l[i]? ≠ some p
  | 0, _, _, i, hi => by omega
  | k + 1, p, h, i, hi => by
    cases hk : l[k]? with
    | none =>
      rw [numN_out p hk] at h
      rcases Nat.lt_or_ge i k with h1 | h1
      · exact numN_none l k p h i h1
      · have : i = k := by omega
        subst this
        rw [hk]
        simp
    | some q =>
      rw [numN_in p hk] at h
      split at h
      · rename_i hs
        rcases Nat.lt_or_ge i k with h1 | h1
        · exact numN_none l k p h i h1
        · have : i = k := by omega
          subst this
          rw [hk]
          intro e
          injection e with e
          subst e
          rw [h] at hs
          simp at hs
      · unfold setN at h
        split at h
        · simp at h
        · rename_i hne
          rcases Nat.lt_or_ge i k with h1 | h1
          · exact numN_none l k p h i h1
          · have : i = k := by omega
            subst this
            rw [hk]
            intro e
            injection e with e
            exact hne e.symm
theorem numN_some (l : Pts) : ∀ (k : Nat) (p : Pt) (c : Int), numN l k p = some c → ∃ i : Nat, c = i ∧ i < k ∧ l[i]? = some p ∧ ∀ j, j < i → l[j]? ≠ some p
  | 0, _, _, h => by simp [numN] at h
  | k + 1, p, c, h => by
    have step : numN l k p = some c → ∃ i : Nat, c = i ∧ i < k + 1 ∧ l[i]? = some p ∧ ∀ j, j < i → l[j]? ≠ some p := fun h => by
      obtain ⟨i, h1, h2, h3⟩ := numN_some l k p c h
      exact ⟨i, h1, by omega, h3⟩
    cases hk : l[k]? with
    | none =>
      rw [numN_out p hk] at h
      exact step h
    | some q =>
      rw [numN_in p hk] at h
      split at h
      · exact step h
      · rename_i hs
        unfold setN at h
        split at h
        · rename_i e
          subst e
          injection h with h
          exact ⟨k, h.symm, by omega, hk, fun j hj => numN_none l k p (by simpa using hs) j hj⟩
        · exact step h
/-- The first number of a point. -/
def num (l : Pts) (p : Pt) : Nat := (atN (numN l l.length) p).toNat
structure NumOf (l : Pts) (p : Pt) (n : Nat) : Prop where
  here : l[n]? = some p
  first : ∀ j, j < n → l[j]? ≠ some p
theorem NumOf.one {l : Pts} {p : Pt} {n m : Nat} (h : NumOf l p n) (h' : NumOf l p m) : n = m := by
  rcases Nat.lt_trichotomy n m with hh | hh | hh
  · exact absurd h.here (h'.first n hh)
  · exact hh
  · exact absurd h'.here (h.first m hh)
theorem num_of {l : Pts} {p : Pt} (h : p ∈ l) : NumOf l p (num l p) ∧ atN (numN l l.length) p = (num l p : Int) := by
  obtain ⟨n, hn, e⟩ := List.mem_iff_getElem.1 h
  have e' : l[n]? = some p := by rw [List.getElem?_eq_getElem hn, e]
  cases hc : numN l l.length p with
  | none => exact absurd e' (numN_none l _ p hc n hn)
  | some c =>
    obtain ⟨i, h1, h2, h3, h4⟩ := numN_some l _ p c hc
    have ha : atN (numN l l.length) p = (i : Int) := by simp [atN, hc, h1]
    have hi : num l p = i := by unfold num; rw [ha]; rfl
    rw [hi]
    exact ⟨⟨h3, h4⟩, ha⟩
theorem num_inj {l : Pts} {p q : Pt} (hp : p ∈ l) (hq : q ∈ l) (h : num l p = num l q) : p = q := by
  have h1 := (num_of hp).1.here
  have h2 := (num_of hq).1.here
  rw [h, h2] at h1
  injection h1 with h1
  exact h1.symm
theorem num_lt {l : Pts} {p : Pt} (h : p ∈ l) : num l p < l.length := (List.getElem?_eq_some_iff.1 (num_of h).1.here).1

theorem len_le {α : Type} [DecidableEq α] : ∀ {a b : List α}, a.Nodup → (∀ x ∈ a, x ∈ b) → a.length ≤ b.length
  | [], _, _, _ => Nat.zero_le _
  | x :: a, b, h, hs => by
    have hx : x ∈ b := hs x (by simp)
    have h1 := (List.nodup_cons.1 h).1
    have := len_le (a := a) (b := b.erase x) (List.nodup_cons.1 h).2 fun y hy => by
      refine (List.mem_erase_of_ne ?_).2 (hs y (by simp [hy]))
      rintro rfl
      exact h1 hy
    rw [List.length_erase_of_mem hx] at this
    have := List.length_pos_of_mem hx
    simp
    omega
theorem RingOK.list_nodup {l R : Pts} (h : RingOK l R) : R.Nodup := by
  rw [List.Nodup, List.pairwise_iff_getElem]
  intro i j hi hj hij e
  have := h.nodup i j R[i] (List.getElem?_eq_getElem hi) (by rw [e]; exact List.getElem?_eq_getElem hj)
  omega
end Go.Proofs.Ytgeoffpcmkofkaa
/- plumbref's 'Hull' and the ring of corners: the same numbers. -/
namespace Go.Proofs.Ytgeoffpcmkofkaa
open Go Go.RowKit Fl

theorem pN_num {l : Pts} {p : Pt} (h : p ∈ l) : pN l (num l p) = p := by
  unfold pN
  rw [(num_of h).1.here]
  rfl
theorem okJ_iff {l : Pts} (hc : ∀ x ∈ l, CdP x) {x k j : Pt} (hx : x ∈ l) (hk : k ∈ l) (hj : j ∈ l) (hne : K x ≠ K k) : okJ x k j = true ↔ 0 ≤ D x k j ∧ (D x k j = 0 → ¬(K x < K k ∧ K j < K x) ∧ ¬(K k < K x ∧ K x < K j)) := by
  have hon := holds_iff (hc k hk) (hc j hj) (hc x hx)
  have r1 := D_rot x k j
  have hinj : K j = K x ↔ j = x := ⟨fun e => K_inj (hc j hj) (hc x hx) e, fun e => by rw [e]⟩
  simp only [okJ, onB, sameB, Bool.and_eq_true, Bool.or_eq_true, Bool.not_eq_true', Bool.and_eq_false_iff, decide_eq_true_eq, decide_eq_false_iff_not, hon, ← hinj]
  constructor
  · rintro ⟨h1, h2⟩
    refine ⟨h1, fun h0 => ?_⟩
    rw [r1, h0] at h2
    omega
  · rintro ⟨h1, h2⟩
    refine ⟨h1, ?_⟩
    by_cases h0 : D x k j = 0
    · have := h2 h0
      rw [r1, h0]
      omega
    · exact .inl (.inl h0)
theorem goodK_iff {l : Pts} (hc : ∀ x ∈ l, CdP x) {x k : Pt} (hx : x ∈ l) (hk : k ∈ l) : goodK l x k = true ↔ Towards D K (· ∈ l) x k := by
  unfold goodK
  rw [Bool.and_eq_true, List.all_eq_true]
  constructor
  · rintro ⟨h1, h2⟩
    have hne : K x ≠ K k := fun e => by
      rw [K_inj (hc x hx) (hc k hk) e] at h1
      simp [sameB] at h1
    have h3 := fun j hj => (okJ_iff hc hx hk hj hne).1 (h2 j hj)
    exact ⟨fun j hj => (h3 j hj).1, fun h j hj h0 hlt => ((h3 j hj).2 h0).1 ⟨h, hlt⟩, fun h j hj h0 hlt => ((h3 j hj).2 h0).2 ⟨h, hlt⟩, hne⟩
  · intro h
    refine ⟨?_, fun j hj => (okJ_iff hc hx hk hj h.apart).2 ⟨h.left j hj, fun h0 => ⟨fun hh => h.ahead hh.1 j hj h0 hh.2, fun hh => h.backward hh.1 j hj h0 hh.2⟩⟩⟩
    have : k ≠ x := fun e => h.apart (by rw [e])
    simp [sameB, this]

theorem cornersTo_mem (l : Pts) : ∀ (k n : Nat), n ∈ cornersTo l k ↔ n < k ∧ cornerB l n = true
  | 0, n => by simp [cornersTo]
  | k + 1, n => by
    unfold cornersTo
    split
    · rename_i h
      rw [List.mem_append, cornersTo_mem l k n, List.mem_singleton]
      constructor
      · rintro (h1 | rfl)
        · exact ⟨by omega, h1.2⟩
        · exact ⟨by omega, h⟩
      · rintro ⟨h1, h2⟩
        by_cases e : n = k
        · exact .inr e
        · exact .inl ⟨by omega, h2⟩
    · rename_i h
      rw [cornersTo_mem l k n]
      constructor
      · rintro ⟨h1, h2⟩; exact ⟨by omega, h2⟩
      · rintro ⟨h1, h2⟩
        by_cases e : n = k
        · rw [e] at h2; exact absurd h2 h
        · exact ⟨by omega, h2⟩
theorem cornersTo_nodup (l : Pts) : ∀ k, (cornersTo l k).Nodup
  | 0 => by simp [cornersTo]
  | k + 1 => by
    unfold cornersTo
    split
    · refine List.nodup_append.2 ⟨cornersTo_nodup l k, by simp, fun a ha b hb => ?_⟩
      have := cornersTo_lt l k a ha
      have : b = k := by simpa using hb
      omega
    · exact cornersTo_nodup l k
theorem cornerB_iff {l : Pts} (hc : ∀ x ∈ l, CdP x) {R : Pts} (h : RingOK l R) (n : Nat) : cornerB l n = true ↔ ∃ x ∈ R, num l x = n := by
  unfold cornerB
  constructor
  · intro hb
    split at hb
    · rename_i x hx
      rw [Bool.and_eq_true, List.any_eq_true] at hb
      obtain ⟨h1, k, hk, h2⟩ := hb
      have hxl := List.mem_of_getElem? hx
      refine ⟨x, h.all x hxl k hk ((goodK_iff hc hxl hk).1 h2), (num_of hxl).1.one ⟨hx, fun j hj => ?_⟩⟩
      have := of_decide_eq_true h1 j hj
      rw [hx] at this
      exact this
    · simp at hb
  · rintro ⟨x, hx, rfl⟩
    have hxl := h.sub x hx
    have hn := (num_of hxl).1
    rw [hn.here]
    simp only
    rw [Bool.and_eq_true, List.any_eq_true]
    obtain ⟨i, hi, e⟩ := List.mem_iff_getElem.1 hx
    have hp : 0 < R.length := by omega
    have e1 : R[i]? = some x := by rw [List.getElem?_eq_getElem hi, e]
    have hm : (i + 1) % R.length < R.length := Nat.mod_lt _ hp
    have e2 : R[(i + 1) % R.length]? = some R[(i + 1) % R.length] := List.getElem?_eq_getElem hm
    have hk := h.sub _ (List.mem_of_getElem? e2)
    refine ⟨?_, _, hk, (goodK_iff hc hxl hk).2 (h.tow i _ _ e1 e2)⟩
    unfold firstB
    rw [hn.here]
    exact decide_eq_true fun k hk => hn.first k hk
theorem corners_mem {l : Pts} (hc : ∀ x ∈ l, CdP x) {R : Pts} (h : RingOK l R) (n : Nat) : n ∈ cornersTo l l.length ↔ ∃ x ∈ R, num l x = n := by
  rw [cornersTo_mem, cornerB_iff hc h]
  constructor
  · exact fun h => h.2
  · rintro ⟨x, hx, rfl⟩
    exact ⟨num_lt (h.sub x hx), x, hx, rfl⟩
theorem corners_len {l : Pts} (hc : ∀ x ∈ l, CdP x) {R : Pts} (h : RingOK l R) : (cornersTo l l.length).length = R.length := by
  have hm : (R.map (num l)).Nodup := by
    rw [List.Nodup, List.pairwise_map]
    refine (List.Pairwise.and_mem.1 h.list_nodup).imp fun {a b} hh e => ?_
    exact hh.2.2 (num_inj (h.sub a hh.1) (h.sub b hh.2.1) e)
  have a1 := len_le hm (b := cornersTo l l.length) fun n hn => by
    obtain ⟨x, hx, e⟩ := List.mem_map.1 hn
    exact (corners_mem hc h n).2 ⟨x, hx, e⟩
  have a2 := len_le (cornersTo_nodup l l.length) (b := R.map (num l)) fun n hn => by
    obtain ⟨x, hx, e⟩ := (corners_mem hc h n).1 hn
    exact List.mem_map.2 ⟨x, hx, e⟩
  simp at a1 a2
  omega
theorem next_ring {l : Pts} (hc : ∀ x ∈ l, CdP x) {R : Pts} (h : RingOK l R) {cs : List Nat} (hcs : ∀ n, n ∈ cs ↔ ∃ x ∈ R, num l x = n) {i : Nat} {x k : Pt} (e1 : R[i]? = some x) (e2 : R[(i + 1) % R.length]? = some k) : nextN l cs (num l x) = num l k := by
  have hp : 0 < R.length := by have := h.len; omega
  have hi := (List.getElem?_eq_some_iff.1 e1).1
  have hxR := List.mem_of_getElem? e1
  have hkR := List.mem_of_getElem? e2
  have hx := h.sub x hxR
  have hk := h.sub k hkR
  have ht := h.tow i x k e1 e2
  have hkc : num l k ∈ cs := (hcs _).2 ⟨k, hkR, rfl⟩
  have hb : nextB l cs (num l x) (num l k) = true := by
    unfold nextB
    rw [Bool.and_eq_true, List.all_eq_true]
    refine ⟨decide_eq_true fun e => ht.apart (by rw [num_inj hk hx e]), fun n hn => ?_⟩
    obtain ⟨y, hy, rfl⟩ := (hcs n).1 hn
    unfold leftJ
    rw [pN_num hx, pN_num hk, pN_num (h.sub y hy)]
    exact decide_eq_true (ht.left y (h.sub y hy))
  unfold nextN
  cases hf : cs.find? (nextB l cs (num l x)) with
  | none =>
    have := List.find?_eq_none.1 hf _ hkc
    exact absurd hb this
  | some z =>
    have hz := List.find?_some hf
    have hzc := List.mem_of_find?_eq_some hf
    obtain ⟨k', hk'R, rfl⟩ := (hcs z).1 hzc
    have hk' := h.sub k' hk'R
    unfold nextB at hz
    rw [Bool.and_eq_true, List.all_eq_true] at hz
    have hne : k' ≠ x := fun e => (of_decide_eq_true hz.1) (by rw [e])
    have hd := hz.2 _ hkc
    unfold leftJ at hd
    rw [pN_num hx, pN_num hk, pN_num hk'] at hd
    obtain ⟨m, hm, em⟩ := List.mem_iff_getElem.1 hk'R
    have t1 := h.tow m k' _ (by rw [List.getElem?_eq_getElem hm, em]) (List.getElem?_eq_getElem (Nat.mod_lt (m + 1) hp))
    have t2 := h.tow _ k _ e2 (List.getElem?_eq_getElem (Nat.mod_lt ((i + 1) % R.length + 1) hp))
    have := next_one plDK affDK hx hk hk' ht t2 t1 (of_decide_eq_true hd) (fun e => hne (K_inj (hc _ hk') (hc _ hx) e))
    show num l k' = num l k
    rw [K_inj (hc _ hk') (hc _ hk) this]
theorem goRound_ring {l : Pts} (hc : ∀ x ∈ l, CdP x) {R : Pts} (h : RingOK l R) {cs : List Nat} (hcs : ∀ n, n ∈ cs ↔ ∃ x ∈ R, num l x = n) : ∀ (m i : Nat) (x : Pt), R[i]? = some x → i + m ≤ R.length → goRound l cs (num l x) m = ((R.drop i).take m).map (num l)
  | 0, i, x, _, _ => by simp [goRound]
  | m + 1, i, x, e, hm => by
    have hi := (List.getElem?_eq_some_iff.1 e).1
    have ed : R.drop i = x :: R.drop (i + 1) := by rw [List.drop_eq_getElem_cons hi, (List.getElem?_eq_some_iff.1 e).2]
    unfold goRound
    rw [ed, List.take_succ_cons, List.map_cons]
    congr 1
    by_cases h1 : i + 1 < R.length
    · have e2 : R[(i + 1) % R.length]? = some R[i + 1] := by rw [Nat.mod_eq_of_lt h1]; exact List.getElem?_eq_getElem h1
      rw [next_ring hc h hcs e e2]
      exact goRound_ring hc h hcs m (i + 1) _ (List.getElem?_eq_getElem h1) (by omega)
    · have : m = 0 := by omega
      subst this
      simp [goRound]
theorem lessP_iff {p q : Pt} (hp : CdP p) (hq : CdP q) : lessP p q = true ↔ K p < K q := by
  have := K_le hq hp
  simp only [lessP, Bool.or_eq_true, Bool.and_eq_true, decide_eq_true_eq]
  constructor
  · intro h
    apply Int.not_le.1
    rw [this]
    omega
  · intro h
    have h2 : ¬K q ≤ K p := by omega
    rw [this] at h2
    omega
theorem least_ok {l : Pts} (hc : ∀ x ∈ l, CdP x) {cs : List Nat} (hcs : ∀ n ∈ cs, n < l.length) {a : Nat} (ha : a ∈ cs) : ∀ k, leastTo l cs a k ∈ cs ∧ ∀ j, j < k → ∀ c, cs[j]? = some c → K (pN l (leastTo l cs a k)) ≤ K (pN l c)
  | 0 => ⟨ha, fun j hj => by omega⟩
  | k + 1 => by
    obtain ⟨h1, h2⟩ := least_ok hc hcs ha k
    have cd : ∀ n ∈ cs, CdP (pN l n) := fun n hn => by
      unfold pN
      rw [List.getElem?_eq_getElem (hcs n hn)]
      exact hc _ (List.getElem_mem _)
    unfold leastTo
    split
    · rename_i c hk
      have hcm := List.mem_of_getElem? hk
      have hl := lessP_iff (cd c hcm) (cd _ h1)
      split
      · rename_i hlt
        rw [hl] at hlt
        refine ⟨hcm, fun j hj c' hc' => ?_⟩
        by_cases e : j = k
        · subst e
          rw [hk] at hc'
          injection hc' with hc'
          subst hc'
          exact Int.le_refl _
        · have := h2 j (by omega) c' hc'
          omega
      · rename_i hlt
        rw [hl] at hlt
        refine ⟨h1, fun j hj c' hc' => ?_⟩
        by_cases e : j = k
        · subst e
          rw [hk] at hc'
          injection hc' with hc'
          subst hc'
          omega
        · exact h2 j (by omega) c' hc'
    · rename_i hk
      refine ⟨h1, fun j hj c' hc' => ?_⟩
      by_cases e : j = k
      · subst e
        rw [hk] at hc'
        simp at hc'
      · exact h2 j (by omega) c' hc'
theorem refHull_ring {l : Pts} (hc : ∀ x ∈ l, CdP x) {R : Pts} (h : RingOK l R) : refHull l = R.map (num l) := by
  have hcs := corners_mem hc h
  have hlen := corners_len hc h
  have hlt := cornersTo_lt l l.length
  have h2 := h.len
  unfold refHull
  generalize cornersTo l l.length = cs at *
  cases cs with
  | nil => simp at hlen; omega
  | cons c cs =>
    simp only
    obtain ⟨f, hf⟩ : ∃ f, R[0]? = some f := ⟨_, List.getElem?_eq_getElem (by omega)⟩
    have hfR := List.mem_of_getElem? hf
    have hfl := h.sub f hfR
    obtain ⟨q1, q2⟩ := least_ok hc hlt (a := c) (by simp) (c :: cs).length
    have hle : leastTo l (c :: cs) c (c :: cs).length = num l f := by
      generalize leastTo l (c :: cs) c (c :: cs).length = z at *
      obtain ⟨y, hy, rfl⟩ := (hcs z).1 q1
      have hyl := h.sub y hy
      obtain ⟨j, hj, ej⟩ := List.mem_iff_getElem.1 ((hcs (num l f)).2 ⟨f, hfR, rfl⟩)
      have a1 := q2 j hj (num l f) (by rw [List.getElem?_eq_getElem hj, ej])
      rw [pN_num hyl, pN_num hfl] at a1
      have a2 := h.first f hf y hyl
      rw [K_inj (hc y hyl) (hc f hfl) (by omega)]
    rw [hle, hlen, goRound_ring hc h hcs R.length 0 f hf (by omega), List.drop_zero, List.take_length]
/-- All points are one. -/
theorem refHull_one {l : Pts} (hc : ∀ x ∈ l, CdP x) (hl : l ≠ []) (hall : ∀ x ∈ l, ∀ y ∈ l, x = y) : ∃ z, ringL (hullS l) = [z] ∧ z ∈ l ∧ num l z = 0 ∧ refHull l = [0] := by
  have hcs : ∀ k, cornersTo l k = [] := fun k => by
    apply List.eq_nil_iff_forall_not_mem.2
    intro n hn
    have hb := ((cornersTo_mem l k n).1 hn).2
    unfold cornerB at hb
    split at hb
    · rename_i x hx
      rw [Bool.and_eq_true, List.any_eq_true] at hb
      obtain ⟨_, y, hy, h2⟩ := hb
      unfold goodK at h2
      rw [hall y hy x (List.mem_of_getElem? hx)] at h2
      simp [sameB] at h2
    · simp at hb
  have hs := hull_is hc
  have hne := hull_ne hc hl
  cases e : hullS l with
  | nil => exact absurd e hne
  | cons z t =>
    have hin : ∀ x ∈ hullS l, x ∈ l := fun x hx => corner_sub hc ((hs.mem x).1 hx)
    have hz : z ∈ l := hin z (by rw [e]; simp)
    have ht : t = [] := by
      cases t with
      | nil => rfl
      | cons y t =>
        have := hs.rising 0 1 z y (by rw [e]; rfl) (by rw [e]; rfl) (by omega)
        have e2 := hall z hz y (hin y (by rw [e]; simp))
        rw [e2] at this
        omega
    subst ht
    refine ⟨z, by simp [ringL], hz, ?_, ?_⟩
    · refine (num_of hz).1.one ⟨?_, fun j hj => by omega⟩
      cases l with
      | nil => exact absurd rfl hl
      | cons a l => rw [hall z hz a (by simp)]; rfl
    · unfold refHull
      rw [hcs, if_neg hl]
/-- plumbref's answer is the program's. -/
theorem refHull_same {l : Pts} (hc : ∀ x ∈ l, CdP x) : hullN l = (refHull l).map fun (n : Nat) => Value.int .i64 (n : Int) := by
  by_cases hl : l = []
  · subst hl
    simp [hullN, refHull, cornersTo]
  · unfold hullN
    rw [if_neg hl]
    by_cases hall : ∀ x ∈ l, ∀ y ∈ l, x = y
    · obtain ⟨z, h1, h2, h3, h4⟩ := refHull_one hc hl hall
      rw [h1, h4]
      have := (num_of h2).2
      simp [numsOf, this, h3]
    · obtain ⟨a, b, ha, hb, hab⟩ : ∃ a b, a ∈ l ∧ b ∈ l ∧ K a < K b := by
        apply Classical.byContradiction
        intro hn
        apply hall
        intro x hx y hy
        refine K_inj (hc x hx) (hc y hy) ?_
        rcases Int.lt_trichotomy (K x) (K y) with h | h | h
        · exact absurd ⟨x, y, hx, hy, h⟩ hn
        · exact h
        · exact absurd ⟨y, x, hy, hx, h⟩ hn
      have h := ring_ok hc ha hb hab
      rw [refHull_ring hc h]
      simp only [numsOf, List.map_map]
      exact List.map_congr_left fun x hx => by rw [(num_of (h.sub x hx)).2]; rfl
end Go.Proofs.Ytgeoffpcmkofkaa
