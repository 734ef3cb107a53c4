/- Mm; Mn; Hj; Hk; Mo; Mp; Mq; Hn; Hm; Hp: texts laid into one. -/
import Derived.Test.YtgeoffpcmkofkaaRbd
import Derived.Test.YtgeoffpcmkofkaaRbc
import Derived.Test.YtgeoffpcmkofkaaRbf
import Derived.Test.YtgeoffpcmkofkaaRbb
import Derived.Test.YtgeoffpcmkofkaaRah
/- The end of hull.Of: the corners' numbers. -/
namespace Go.Proofs.Ytgeoffpcmkofkaa
open Go Go.Conc Go.RowKit Fl Go.Maps
set_option maxRecDepth 100000
attribute [local go_sem ↓] Go.wp_at_zero Go.wp_at_succ

noncomputable def c54 : Code := match Try.f54.body with
  | some (.seq _ (.seq _ (.seq _ r))) => r
  | _ => .skip
/-- The numbers of some points. -/
def numsOf (m : Ns) (ws : Pts) : List Value := ws.map fun p => .int .i64 (atN m p)
/-- Where the loop over the corners stands. -/
structure NI (w w1 wr : World) (m : Ns) (ws : Pts) (i : Nat) (xs : List Value) : Prop where
  gr : w1.grownBy wr (some w.heap.size)
  own : wr.ownsRow w.heap.size 3 1 (.slice (some ⟨w.heap.size, 0, none⟩) ws.length ws.length) ws.length xs
  done : xs.take i = (numsOf m ws).take i
theorem PtsAt.heap {w w' : World} {g off : Nat} {l : Pts} (h : PtsAt w g off l) (e : w'.heap[g]? = w.heap[g]?) : PtsAt w' g off l := fun i hi => by
  have := h i hi
  simp only [World.cell?, e] at this ⊢
  exact this
theorem NI.box {w w1 wr : World} {m : Ns} {ws : Pts} {i : Nat} {xs : List Value} (h : NI w w1 wr m ws i xs) (o : Obj) : NI w w1 (wr.alloc o) m ws i xs := ⟨h.gr.trans ((New.alloc wr o).but _), h.own.alloc o, h.done⟩
theorem NI.put {w w1 wr : World} {m : Ns} {ws : Pts} {i : Nat} {xs : List Value} {p : Pt} (h : NI w w1 wr m ws i xs) (hi : ws[i]? = some p) : NI w w1 (wr.setCell ⟨w.heap.size, i, none⟩ (.int .i64 (atN m p))) m ws (i + 1) (xs.set i (.int .i64 (atN m p))) := by
  have hs := World.ownsRow.stored h.own i (.int .i64 (atN m p))
  refine ⟨h.gr.trans hs.2, hs.1, ?_⟩
  have hlt : i < ws.length := (List.getElem?_eq_some_iff.1 hi).1
  have hx : xs.length = ws.length := by have := h.own.1; omega
  have e : (numsOf m ws)[i]? = some (.int .i64 (atN m p)) := by simp [numsOf, hi]
  rw [List.take_add_one, List.take_add_one, e, List.take_set_of_le (Nat.le_refl _), h.done]
  simp [hx, hlt]

set_option maxHeartbeats 1600000 in
theorem rest54 (lv : Value) (g cap b n : Nat) (m : Ns) (ws : Pts) (w : World) (hp : PtsAt w g 0 ws) (hg : g < w.heap.size) (hm : MapI w b n m) (hl : ws.length ≤ 1000000) (hc : ∀ x ∈ ws, CdP x) (h1 h2 h3 h4 : Value) :
    c54.wp Try.prog (fun e a w' => (e = .normal ∨ e = .ret) ∧ ∃ v, a.tmps.getD 2 undef = v ∧ Hid (Kept w w' ∧ w'.ownsRow w.heap.size 3 1 v ws.length (numsOf m ws)))
      { tmps := #[lv, undef, .slice none 0 0, .map (some b), .slice (some ⟨g, 0, none⟩) ws.length cap, undef, undef, undef, h1, h2, h3, h4, .slice (some ⟨g, 0, none⟩) ws.length cap, undef, undef, undef, undef, undef, undef, undef, undef, undef, undef, undef, undef, undef, undef, undef, undef, undef, undef], defers := [] } w := by
  simp only [c54, Try.f54]
  have HP : Hid (PtsAt w g 0 ws ∧ g < w.heap.size ∧ MapI w b n m ∧ ∀ x ∈ ws, CdP x) := ⟨hp, hg, hm, hc⟩
  clear hp hg hm hc
  obtain ⟨i0, hi0, hz0, hz1, hz2⟩ := info_parts Try.info3
  obtain ⟨w1, k1, k2, k3⟩ := run_make_full (P := Try.prog) w w.heap.size 46 3 i0 _ 1 Try.underlying46 hi0 hz0 hz1 .i64 .i64 ws.length (by rw [hz2]; omega) (by unfold maxLen; omega) (Nat.le_refl _)
  have HN : Hid (NI w w1 w1 m ws 0 (madeCells (Value.int .i64 0).cells (ws.length * 1)).toList ∧ w.grownBy w1 none) := ⟨⟨World.grownBy.refl _ _, k2, rfl⟩, k3⟩
  clear k2 k3 hi0 hz0 hz1 hz2
  go_wp2_with fail
  go_loopw [18] (fun i wr => ∃ (k : Nat) (xs : List Value), i = .int .i64 (k : Int) ∧ k ≤ ws.length ∧ Hid (NI w w1 wr m ws k xs)) (fun i _ => ws.length - (intOf i).toNat)
  case atStart => exact ⟨0, _, rfl, Nat.zero_le _, HN.out.1⟩
  case round =>
    obtain ⟨k, xs, rfl, hk, H⟩ := hrel
    have hsz : w1.heap.size ≤ wr.heap.size := H.out.gr.size
    rcases Nat.lt_or_ge k ws.length with hk' | hk'
    · have hb : b < w.heap.size := HP.out.2.2.1.lt
      have hc := (HP.out.1.heap (w' := wr) (by rw [H.out.gr.block g (by have := HN.out.2.size; have := HP.out.2.1; omega) (by have := HP.out.2.1; simp; omega), HN.out.2.block g HP.out.2.1 (by simp)])) k hk'
      rw [Nat.zero_add] at hc
      obtain ⟨p, hp⟩ : ∃ p, p = ws[k] := ⟨_, rfl⟩
      have HC : Hid (CdP p ∧ ws[k]? = some p) := ⟨by rw [hp]; exact HP.out.2.2.2 _ (List.getElem_mem hk'), by rw [hp]; exact List.getElem?_eq_getElem hk'⟩
      rw [← hp] at hc
      obtain ⟨x0, x1⟩ := hc
      clear hp
      have i0 : (0 : Int) ≤ (k : Int) := by omega
      have i1 : (k : Int) < (ws.length : Int) := by omega
      have hw1 : IntKind.i64.wrap ((k : Int) + 1) = (k : Int) + 1 := by rw [IntKind.wrap_i64]; omega
      have HM : Hid (MapI (wr.alloc (.cells #[.int .i64 p.1, .int .i64 p.2] 23)) b n m) := ((HP.out.2.2.1.new HN.out.2).kept H.out.gr (by simp; omega)).new (New.alloc _ _)
      have HB : Hid (NI w w1 (wr.alloc (.cells #[.int .i64 p.1, .int .i64 p.2] 23)) m ws k xs) := H.out.box _
      obtain ⟨xk, hxk⟩ : ∃ xk, xs[k]? = some xk := ⟨_, List.getElem?_eq_getElem (show k < xs.length by have := H.out.own.1; omega)⟩
      have f1 := World.ownsRow.frozenAt HB.out.own k
      have f2 : (wr.alloc (.cells #[.int .i64 p.1, .int .i64 p.2] 23)).cell? ⟨w.heap.size, k, none⟩ = some xk := (World.ownsRow.cellAt HB.out.own k (by omega)).trans hxk
      have HF : Hid (NI w w1 ((wr.alloc (.cells #[.int .i64 p.1, .int .i64 p.2] 23)).setCell ⟨w.heap.size, k, none⟩ (.int .i64 (atN m p))) m ws (k + 1) (xs.set k (.int .i64 (atN m p)))) := HB.out.put HC.out.2
      have y0 : (wr.alloc (.cells #[.int .i64 p.1, .int .i64 p.2] 23)).cell? ⟨wr.heap.size, 0, none⟩ = some (.int .i64 p.1) := by go_simp
      have y1 : (wr.alloc (.cells #[.int .i64 p.1, .int .i64 p.2] 23)).cell? ⟨wr.heap.size, 1, none⟩ = some (.int .i64 p.2) := by go_simp
      clear hxk
      go_wp2_with (first
        | (at_lookup; refine wpList_lookI _ rfl _ _ rfl b n m rfl HM.out p rfl HC.out.1 ?_)
        | go_in)
      go_roundw
      case rel => exact ⟨k + 1, _, by go_num, hk', HF⟩
      case measure => simp [intOf]; omega
    · have e : k = ws.length := by omega
      subst e
      go_wp2_with fail
      refine ⟨⟨H.out.gr.os.trans HN.out.2.os, H.out.gr.output.trans HN.out.2.output, Nat.le_trans HN.out.2.size hsz, fun r hr => by rw [H.out.gr.block r (Nat.lt_of_lt_of_le hr HN.out.2.size) (by simp; omega), HN.out.2.block r hr (by simp)]⟩, ?_⟩
      have e : xs = numsOf m ws := by
        have h1 := H.out.done
        have h2 : xs.length = ws.length := by have := H.out.own.1; omega
        rw [List.take_of_length_le (by omega), List.take_of_length_le (by simp [numsOf])] at h1
        exact h1
      rw [← e]
      exact H.out.own
end Go.Proofs.Ytgeoffpcmkofkaa
/- hull.Of, beside goroutines that only leave. -/
namespace Go.Proofs.Ytgeoffpcmkofkaa
open Go Go.Conc Go.RowKit Fl Go.Maps
set_option maxRecDepth 100000

theorem fs69 : FSof fsI 69 := by decide
theorem MapI.heap {w w' : World} {b n : Nat} {m : Ns} (h : MapI w b n m) (e : w'.heap[b]? = w.heap[b]?) : MapI w' b n m := by
  obtain ⟨D, ⟨es, clock, h1, h2⟩, h3⟩ := h
  exact ⟨D, ⟨es, clock, by rw [e]; exact h1, h2⟩, h3⟩
/-- What FirstNumbers leaves. -/
structure FnK (w w' : World) (v : Value) (l : Pts) : Prop where
  kept : Kept w w'
  map : ∃ b, v = .map (some b) ∧ w.heap.size ≤ b ∧ MapI w' b l.length (numN l l.length)
/-- A row of numbers that was made. -/
structure OutN (w w' : World) (v : Value) (xs : List Value) : Prop where
  kept : Kept w w'
  row : w'.ownsRow w.heap.size 3 1 v xs.length xs

theorem codeP54 : CodeP Try.prog (FSof fsI) c54 := codeP_sound (by kernel_rfl)
theorem ring_le (s : Pts) : (ringL s).length ≤ 2 * s.length := by
  unfold ringL
  split
  · omega
  · have h1 := way_le' s
    have h2 := way_le' s.reverse
    simp at h2 ⊢
    omega
theorem ring_sub {s : Pts} {x : Pt} (h : x ∈ ringL s) : x ∈ s := by
  unfold ringL at h
  split at h
  · exact h
  · rcases List.mem_append.1 h with h | h
    · have h1 := List.mem_reverse.1 (List.dropLast_subset _ h)
      exact wayOf_sub s.length s x (by rw [List.take_length]; exact h1)
    · have h1 := List.mem_reverse.1 (List.dropLast_subset _ h)
      exact List.mem_reverse.1 (wayOf_sub s.reverse.length s.reverse x (by rw [List.take_length]; exact h1))
theorem cat_len {outs : Nat → Pts} {q : Nat} (h : ∀ i, (outs i).length ≤ q) : ∀ m, (cat outs m).length ≤ m * q
  | 0 => by simp [cat]
  | m + 1 => by
    have h1 := cat_len h m
    have h2 := h m
    rw [cat_succ, List.length_append, Nat.add_mul]
    omega
theorem cat_sub {outs : Nat → Pts} {x : Pt} {m : Nat} (h : x ∈ cat outs m) : ∃ i, i < m ∧ x ∈ outs i := by
  simp only [cat, List.mem_flatMap, List.mem_range] at h
  exact h
theorem PtsIn.part {c : Array Value} {l : Pts} (h : PtsIn c 0 l) (i : Nat) : PtsIn c (0 + i * 16) ((l.drop (8 * i)).take 8) := fun j hj => by
  have hj' : 8 * i + j < l.length := by simp at hj; omega
  have h1 := h (8 * i + j) hj'
  have e : ((l.drop (8 * i)).take 8)[j] = l[8 * i + j] := by simp
  rw [e, show 0 + i * 16 + j * 2 = 0 + (8 * i + j) * 2 by omega]
  exact h1
theorem PtsIn.row {cur : Array Value} {l : Pts} (h : cur.toList.take (l.length * 2) = flatP l) : PtsIn cur 0 l := fun i hi => by
  have h1 := flatP_get l i hi
  rw [← h] at h1
  rw [List.getElem?_take_of_lt (by omega), List.getElem?_take_of_lt (by omega)] at h1
  simpa using h1

set_option maxHeartbeats 1000000 in
theorem A.hullOf {Post : Value → World → Prop} {r0 cap : Nat} {c : Array Value} {l s : Pts} {ds : Nat → Pts} {w : World} {x : Frame} {cs : List Frame} (hl : l.length ≤ 1000) (hcap : l.length ≤ cap) (hw : w.heap[r0]? = some (.cells c 23 (0, 0))) (hc : ∀ x ∈ c.toList, ∃ n, x = .int .i64 n) (hr : GN ≤ r0)
    (hp : PtsIn c 0 l) (hcd : ∀ x ∈ l, CdP x) (hds : ∀ i, IsDis ((l.drop (8 * i)).take 8) (ds i)) (hs : IsDis (cat (fun i => ringL (ds i)) ((l.length + 7) / 8)) s) (hne : ringL s ≠ [])
    (h : ∀ v w', OutN w w' v (numsOf (numN l l.length) (ringL s)) → A Try.prog Post (x.finish v) cs w') :
    A Try.prog Post (Frame.enter Try.prog 54 #[.slice (some ⟨r0, 0, none⟩) l.length cap] .normal) (x :: cs) w := by
  have hlt : r0 < w.heap.size := (Array.getElem?_eq_some_iff.1 hw).1
  rw [Conc.enter_at _ Try.func54 (c := Try.f54.body.getD .skip) rfl]
  walk_nrmf Try.f54
  refine .ctl (fun _ => stepG_seq) ?_
  refine .ctl (fun _ => stepG_region) ?_
  walk_nrm
  refine .mov (.slice none 0 0) rfl rfl (.inr rfl) rfl (by decide) ?_
  walk_nrm
  refine .ctl (fun _ => stepG_region_end) ?_
  refine .ctl (fun _ => stepG_seq) ?_
  refine .ctl (fun _ => stepG_region) ?_
  walk_nrm
  refine .mov (.slice (some ⟨r0, 0, none⟩) l.length cap) rfl rfl (.inl rfl) rfl (by decide) ?_
  walk_nrm
  refine .ent (f := 69) (xs := #[.slice (some ⟨r0, 0, none⟩) l.length cap]) rfl rfl (by decide) (fun w' => by go_simp) (fun w' => by simp [go_sem, callFunc, Try.func69, Try.f69]) ?_
  refine A.call bodP noEarly fs69 Try.func69 (c := Try.f69.body.getD .skip) rfl (Q := fun v w' => FnK w w' v l) (fun v w1 w2 k q => ⟨q.kept.same k, let ⟨b, h1, h2, h3⟩ := q.map; ⟨b, h1, h2, h3.heap (by rw [k.heap])⟩⟩) (fun w' hs' => (first_some r0 cap l w' (hp.at (by rw [hs'.heap]; exact hw)) (by rw [hs'.heap]; exact hlt) (by omega) hcd).mono ?_) fun mv1 w1 hq => ?_
  · rintro e w2 ⟨b, rfl, H⟩
    refine ⟨_, rfl, H.out.1.kept0 hs', b, rfl, ?_, H.out.2.2⟩
    have := H.out.2.1
    rwa [hs'.heap] at this
  obtain ⟨bm, rfl, hbm, hmap⟩ := hq.map
  rw [Frame.finish_at]
  walk_nrm
  refine .mov (.map (some bm)) rfl rfl (.inr rfl) rfl (by decide) ?_
  walk_nrm
  refine .ctl (fun _ => stepG_region_end) ?_
  refine .ctl (fun _ => stepG_seq) ?_
  refine .ctl (fun _ => stepG_region) ?_
  walk_nrm
  refine .mov (.slice (some ⟨r0, 0, none⟩) l.length cap) rfl rfl (.inl rfl) rfl (by decide) ?_
  walk_nrm
  refine .ent (f := 71) (xs := #[.slice (some ⟨r0, 0, none⟩) l.length cap]) rfl rfl (by decide) (fun w' => by go_simp) (fun w' => by simp [go_sem, callFunc, Try.func71, Try.f71]) ?_
  refine A.parts (c := c) (outs := fun i => ringL (ds i)) hl hcap (by rw [hq.kept.block r0 hlt]; exact hw) hc hr (fun i hi => ?_) ?_ ?_ fun v1 w2 hO => ?_
  · have e : ((l.drop (8 * i)).take 8).length = min 8 (l.length - 8 * i) := by simp
    rw [← e]
    exact aroundC (hp.part i) (by rw [e]; omega) (fun x hx => hcd x (List.mem_of_mem_drop (List.mem_of_mem_take hx))) (hds i)
  · have h1 : ∀ i, (ringL (ds i)).length ≤ 16 := fun i => by
      have h1 := ring_le (ds i)
      have h2 := (hds i).len
      simp at h2
      omega
    have := cat_len h1 ((l.length + 7) / 8)
    omega
  · intro i
    have h1 := ring_le (ds i)
    have h2 := (hds i).len
    simp at h2
    omega
  have hpc : ∀ x ∈ cat (fun i => ringL (ds i)) ((l.length + 7) / 8), CdP x := fun x hx => by
    obtain ⟨i, _, h2⟩ := cat_sub hx
    exact hcd x (List.mem_of_mem_drop (List.mem_of_mem_take (((hds i).mem x).1 (ring_sub h2))))
  have hcl : (cat (fun i => ringL (ds i)) ((l.length + 7) / 8)).length ≤ 10000 := by
    have h1 : ∀ i, (ringL (ds i)).length ≤ 16 := fun i => by
      have h1 := ring_le (ds i)
      have h2 := (hds i).len
      simp at h2
      omega
    have := cat_len h1 ((l.length + 7) / 8)
    omega
  have hpne : cat (fun i => ringL (ds i)) ((l.length + 7) / 8) ≠ [] := fun e => hne (by
    have h1 := hs.len
    rw [e] at h1
    have h2 : s = [] := List.eq_nil_of_length_eq_zero (by simpa using h1)
    rw [h2]
    rfl)
  generalize cat (fun i => ringL (ds i)) ((l.length + 7) / 8) = pts at hO hs hpc hcl hpne
  obtain ⟨g, gcap, cur, e1, hgb, hgh, hgt⟩ : ∃ g gcap cur, v1 = .slice (some ⟨g, 0, none⟩) pts.length gcap ∧ w1.heap.size ≤ g ∧ w2.heap[g]? = some (.cells cur 23 (0, 0)) ∧ cur.toList.take (pts.length * 2) = flatP pts := by
    rcases hO.row.2 with ⟨_, e2⟩ | ⟨g, cap', cur, e1, e2, e3, e4, e5, e6, e7⟩
    · exact absurd (List.eq_nil_of_length_eq_zero e2) hpne
    · exact ⟨g, cap', cur, e1, e2, e3, e7⟩
  subst e1
  have hints := hO.ints g rfl cur 23 (0, 0) hgh
  rw [Frame.finish_at]
  walk_nrm
  refine .ent (f := 70) (xs := #[.slice (some ⟨g, 0, none⟩) pts.length gcap]) rfl rfl (by decide) (fun w' => by go_simp) (fun w' => by simp [go_sem, callFunc, Try.func70, Try.f70]) ?_
  refine A.around (aroundC (PtsIn.row hgt) (by omega) hpc hs) hgh hints (by have := hq.kept.size; omega) fun v2 w3 hR q1 q2 q3 q4 => ?_
  rcases hR with ⟨_, e⟩ | ⟨g3, c3, rfl, hg3, hp3⟩
  · exact absurd e hne
  rw [Frame.finish_at]
  walk_nrm
  refine .mov (.slice (some ⟨g3, 0, none⟩) (ringL s).length c3) rfl rfl (.inr rfl) rfl (by decide) ?_
  walk_nrm
  refine .ctl (fun _ => stepG_region_end) ?_
  have hmap3 : MapI w3 bm l.length (numN l l.length) := (hmap.heap (hO.kept.block bm hmap.lt)).heap (q4 bm (Nat.lt_of_lt_of_le hmap.lt hO.kept.size))
  have hg3' : g3 < w3.heap.size := by
    have h1 := (hp3 0 (List.length_pos_iff.2 hne)).1
    simp only [World.cell?] at h1
    rcases Nat.lt_or_ge g3 w3.heap.size with h | h
    · exact h
    · rw [Array.getElem?_eq_none h] at h1
      cases h1
  have hk3 : Kept w w3 := (hq.kept.trans hO.kept).trans ⟨q2, q3, q1, q4⟩
  refine A.rest bodP noEarly (b := base 54) Try.func54 rfl (c := c54) codeP54 rfl (Q := fun a w' => ∃ v, a.tmps.getD 2 undef = v ∧ OutN w w' v (numsOf (numN l l.length) (ringL s))) (fun a w1 w2 k q => ?_) (fun w' hs' => ?_) fun a' w' todo hd hQ => ?_
  · obtain ⟨v, h1, h2⟩ := q
    exact ⟨v, h1, h2.kept.same k, owns_same h2.row k⟩
  · refine Go.wp_mono (rest54 _ g3 c3 bm l.length (numN l l.length) (ringL s) w' (hp3.heap (by rw [hs'.heap])) (by rw [hs'.heap]; exact hg3') (hmap3.heap (by rw [hs'.heap])) ?_ (fun x hx => hpc x ((hs.mem x).1 (ring_sub hx))) _ _ _ _) fun e a w2 hh => ?_
    · have h1 := ring_le s
      have h2 := hs.len
      omega
    · obtain ⟨h1, v, h2, h3⟩ := hh
      refine ⟨h1, v, h2, (hk3.same hs').trans h3.out.1, ?_⟩
      have := own_base (N := w.heap.size) (by have := (hk3.same hs').size; exact this) h3.out.2
      simpa [numsOf] using this
  · obtain ⟨v, h1, h2⟩ := hQ
    refine .ctl (fr1 := x.finish v) (cs1 := cs) (fun w3 => ?_) (h v w' h2)
    obtain ⟨tmps, dfs⟩ := a'
    simp only at hd h1
    subst hd
    refine stepG_leave rfl rfl Try.func54 ?_ ?_
    · subst h1
      simp [results, Try.f54]
    · simp [results, Try.f54]
end Go.Proofs.Ytgeoffpcmkofkaa
/- The corners of the parts are enough: the ways round them are ways round all points. -/
namespace Go.Proofs.Ytgeoffpcmkofkaa
open Go Go.RowKit Fl

theorem LeftOf.of {α : Type} {D : α → α → α → Int} {x : α} : ∀ {l : List α}, (∀ (i : Nat) (u v : α), l[i]? = some v → l[i + 1]? = some u → 0 ≤ D u v x) → LeftOf D x l
  | [], _ => trivial
  | [_], _ => trivial
  | v :: u :: l, h => ⟨h 0 u v rfl rfl, LeftOf.of fun i a b h1 h2 => h (i + 1) a b (by simpa using h1) (by simpa using h2)⟩
theorem Rising.pairwise {s : Pts} (h : Rising s) : s.Pairwise fun a b => K a < K b := by
  rw [List.pairwise_iff_getElem]
  intro i j hi hj hij
  exact h i j _ _ (List.getElem?_eq_getElem hi) (List.getElem?_eq_getElem hj) hij
theorem Rising.back {s : Pts} (h : Rising s) : s.reverse.Pairwise fun a b => -K a < -K b := by
  rw [List.pairwise_reverse]
  exact h.pairwise.imp fun h => by omega
/-- There. -/
theorem there_ok {s : Pts} (h : Rising s) (hne : s ≠ []) : WayOK D K (· ∈ s) (wayOf D s) := by
  cases s with
  | nil => exact absurd rfl hne
  | cons p s => exact wayOf_ok plDK h.pairwise
/-- And back. -/
theorem back_ok {s : Pts} (h : Rising s) (hne : s ≠ []) : WayOK D (fun x => -K x) (· ∈ s) (wayOf D s.reverse) := by
  have hb := h.back
  cases hr : s.reverse with
  | nil => exact absurd (List.reverse_eq_nil_iff.1 hr) hne
  | cons p t =>
    rw [hr] at hb
    have := wayOf_ok plDK.neg hb
    have e : (fun x => x ∈ p :: t) = fun x => x ∈ s := by funext x; rw [← hr]; simp
    rw [e] at this
    exact this
theorem ring_has {s : Pts} (h : Rising s) {x : Pt} (hx : x ∈ wayOf D s ∨ x ∈ wayOf D s.reverse) : x ∈ ringL s := by
  have hne : s ≠ [] := by
    rintro rfl
    simp [wayOf] at hx
  unfold ringL
  split
  · rcases hx with hx | hx
    · exact wayOf_sub s.length s x (by rw [List.take_length]; exact hx)
    · exact List.mem_reverse.1 (wayOf_sub s.reverse.length s.reverse x (by rw [List.take_length]; exact hx))
  · rename_i h2
    have hT := there_ok h hne
    have hU := back_ok h hne
    have tl := way_len (s := s) (by omega)
    have ul := way_len (s := s.reverse) (by simp; omega)
    have m1 := ends_meet hT hU
    have hT' : WayOK D (fun x => - -K x) (· ∈ s) (wayOf D s) := by
      have e : (fun x : Pt => - -K x) = K := by funext x; omega
      rw [e]; exact hT
    have m2 := ends_meet hU hT'
    -- a way's points, but its last, and its last, with which the other begins
    have key : ∀ {A B : Pts}, 2 ≤ B.length → A.head? = B.getLast? → x ∈ A → x ∈ A.reverse.dropLast ∨ x ∈ B.reverse.dropLast := by
      intro A B hB hm hx
      cases A with
      | nil => simp at hx
      | cons a A =>
        rcases List.mem_cons.1 hx with rfl | hx
        · right
          have hr : B.reverse.head? = some x := by rw [List.head?_reverse, ← hm]; rfl
          cases hq : B.reverse with
          | nil => rw [hq] at hr; simp at hr
          | cons y Y =>
            rw [hq] at hr
            have : y = x := by simpa using hr
            subst this
            cases Y with
            | nil => have := congrArg List.length hq; simp at this; omega
            | cons z Z => simp
        · left
          rw [List.reverse_cons, List.dropLast_concat]
          simpa using hx
    rw [List.mem_append]
    rcases hx with hx | hx
    · exact key ul m1 hx
    · exact (key tl m2 hx).symm
/-- The i-th part, in its order. -/
def partS (l : Pts) (i : Nat) : Pts := disL ((l.drop (8 * i)).take 8)
/-- The corners of the parts. -/
def cornersL (l : Pts) : Pts := cat (fun i => ringL (partS l i)) ((l.length + 7) / 8)
def hullS (l : Pts) : Pts := disL (cornersL l)
section
variable {l : Pts}
theorem part_is (hc : ∀ x ∈ l, CdP x) (i : Nat) : IsDis ((l.drop (8 * i)).take 8) (partS l i) := disL_is fun x hx => hc x (List.mem_of_mem_drop (List.mem_of_mem_take hx))
theorem corner_sub (hc : ∀ x ∈ l, CdP x) {x : Pt} (h : x ∈ cornersL l) : x ∈ l := by
  obtain ⟨i, _, h2⟩ := cat_sub h
  exact List.mem_of_mem_drop (List.mem_of_mem_take (((part_is hc i).mem x).1 (ring_sub h2)))
theorem corner_cd (hc : ∀ x ∈ l, CdP x) : ∀ x ∈ cornersL l, CdP x := fun x hx => hc x (corner_sub hc hx)
theorem hull_is (hc : ∀ x ∈ l, CdP x) : IsDis (cornersL l) (hullS l) := disL_is (corner_cd hc)
theorem in_part {x : Pt} (h : x ∈ l) : ∃ i, i < (l.length + 7) / 8 ∧ x ∈ (l.drop (8 * i)).take 8 := by
  obtain ⟨n, hn, rfl⟩ := List.mem_iff_getElem.1 h
  refine ⟨n / 8, by omega, ?_⟩
  have e : l[n] = ((l.drop (8 * (n / 8))).take 8)[n % 8]'(by simp; omega) := by
    simp only [List.getElem_take, List.getElem_drop]
    congr 1
    omega
  rw [e]
  exact List.getElem_mem _
theorem in_corners {x : Pt} {i : Nat} (hi : i < (l.length + 7) / 8) (h : x ∈ ringL (partS l i)) : x ∈ cornersL l := by
  simp only [cornersL, cat, List.mem_flatMap, List.mem_range]
  exact ⟨i, hi, h⟩
/-- What holds of the corners of the parts holds of all. -/
theorem all_left (hc : ∀ x ∈ l, CdP x) {u v : Pt} (h : ∀ c ∈ cornersL l, 0 ≤ D u v c) {x : Pt} (hx : x ∈ l) : 0 ≤ D u v x := by
  obtain ⟨i, hi, hx⟩ := in_part hx
  have hs := part_is hc i
  have hx' := (hs.mem x).2 hx
  have hne : partS l i ≠ [] := fun e => by rw [e] at hx'; simp at hx'
  rcases Int.le_total (K u) (K v) with huv | huv
  · exact enough affDK (there_ok hs.rising hne) huv (fun c hcm => h c (in_corners hi (ring_has hs.rising (.inl hcm)))) hx'
  · exact enough affDK.neg (back_ok hs.rising hne) (by omega) (fun c hcm => h c (in_corners hi (ring_has hs.rising (.inr hcm)))) hx'
/-- The least and the greatest are corners. -/
theorem all_low (hc : ∀ x ∈ l, CdP x) {k : Int} (h : ∀ c ∈ cornersL l, k ≤ K c) {x : Pt} (hx : x ∈ l) : k ≤ K x := by
  obtain ⟨i, hi, hx⟩ := in_part hx
  have hs := part_is hc i
  have hx' := (hs.mem x).2 hx
  have hne : partS l i ≠ [] := fun e => by rw [e] at hx'; simp at hx'
  have hw := there_ok hs.rising hne
  cases hm : (wayOf D (partS l i)).getLast? with
  | none => exact absurd (List.getLast?_eq_none_iff.1 hm) hw.some
  | some m =>
    have h1 := (hw.low m hm x hx').1
    have h2 := h m (in_corners hi (ring_has hs.rising (.inl (List.mem_of_getLast? hm))))
    omega
theorem all_top (hc : ∀ x ∈ l, CdP x) {k : Int} (h : ∀ c ∈ cornersL l, K c ≤ k) {x : Pt} (hx : x ∈ l) : K x ≤ k := by
  obtain ⟨i, hi, hx⟩ := in_part hx
  have hs := part_is hc i
  have hx' := (hs.mem x).2 hx
  have hne : partS l i ≠ [] := fun e => by rw [e] at hx'; simp at hx'
  have hw := there_ok hs.rising hne
  cases hm : wayOf D (partS l i) with
  | nil => exact absurd hm hw.some
  | cons t r =>
    have h1 := hw.top t r hm x hx'
    have h2 := h t (in_corners hi (ring_has hs.rising (.inl (by rw [hm]; simp))))
    omega
theorem hull_ne (hc : ∀ x ∈ l, CdP x) (hl : l ≠ []) : hullS l ≠ [] := by
  intro e
  cases l with
  | nil => exact hl rfl
  | cons a t =>
    have hs := hull_is hc
    have h : ∀ c ∈ cornersL (a :: t), K a + 1 ≤ K c := fun c hcm => by
      have := (hs.mem c).2 hcm
      rw [e] at this
      simp at this
    have := all_low hc h (x := a) (by simp)
    omega
/-- The way there is one round all points. -/
theorem hull_there (hc : ∀ x ∈ l, CdP x) (hl : l ≠ []) : WayOK D K (· ∈ l) (wayOf D (hullS l)) := by
  have hs := hull_is hc
  have hw := there_ok hs.rising (hull_ne hc hl)
  have hsub : ∀ x ∈ wayOf D (hullS l), x ∈ l := fun x hx => corner_sub hc ((hs.mem x).1 (hw.part x hx))
  refine ⟨hw.turns, hw.falls, fun x hx => LeftOf.of fun i u v h1 h2 => ?_, hsub, hw.some, fun t r e x hx => ?_, fun m hm x hx => ?_⟩
  · exact all_left hc (fun c hcm => (hw.left c ((hs.mem c).2 hcm)).get i h1 h2) hx
  · exact all_top hc (fun c hcm => hw.top t r e c ((hs.mem c).2 hcm)) hx
  · exact ⟨all_low hc (fun c hcm => (hw.low m hm c ((hs.mem c).2 hcm)).1) hx, fun e => K_inj (hc x hx) (hc m (hsub m (List.mem_of_getLast? hm))) e⟩
theorem hull_back (hc : ∀ x ∈ l, CdP x) (hl : l ≠ []) : WayOK D (fun x => -K x) (· ∈ l) (wayOf D (hullS l).reverse) := by
  have hs := hull_is hc
  have hw := back_ok hs.rising (hull_ne hc hl)
  have hsub : ∀ x ∈ wayOf D (hullS l).reverse, x ∈ l := fun x hx => corner_sub hc ((hs.mem x).1 (hw.part x hx))
  refine ⟨hw.turns, hw.falls, fun x hx => LeftOf.of fun i u v h1 h2 => ?_, hsub, hw.some, fun t r e x hx => ?_, fun m hm x hx => ?_⟩
  · exact all_left hc (fun c hcm => (hw.left c ((hs.mem c).2 hcm)).get i h1 h2) hx
  · have := all_low hc (k := K t) (fun c hcm => by have := hw.top t r e c ((hs.mem c).2 hcm); omega) hx
    omega
  · have := all_top hc (k := K m) (fun c hcm => by have := (hw.low m hm c ((hs.mem c).2 hcm)).1; omega) hx
    exact ⟨by omega, fun e => K_inj (hc x hx) (hc m (hsub m (List.mem_of_getLast? hm))) (by omega)⟩
end
end Go.Proofs.Ytgeoffpcmkofkaa
/- The ring of corners: what it is, over all points of the list. -/
namespace Go.Proofs.Ytgeoffpcmkofkaa
open Go Go.RowKit Fl

/-- All that is told of a ring of two corners or more. -/
structure RingOK (l R : Pts) : Prop where
  len : 2 ≤ R.length
  sub : ∀ x ∈ R, x ∈ l
  nodup : ∀ (i j : Nat) (x : Pt), R[i]? = some x → R[j]? = some x → i = j
  tow : ∀ (i : Nat) (u v : Pt), R[i]? = some u → R[(i + 1) % R.length]? = some v → Towards D K (· ∈ l) u v
  turns : 3 ≤ R.length → ∀ (i : Nat) (a b c : Pt), R[i]? = some a → R[(i + 1) % R.length]? = some b → R[(i + 2) % R.length]? = some c → 0 < D a b c
  first : ∀ f, R[0]? = some f → ∀ x ∈ l, K f ≤ K x
  all : ∀ x ∈ l, ∀ k ∈ l, Towards D K (· ∈ l) x k → x ∈ R
section
variable {α : Type} {D : α → α → α → Int} {K : α → Int} {Seen : α → Prop}
theorem Rises.mono {r : List α} (h : Rises D K Seen r) : ∀ (d i : Nat) (u v : α), r[i]? = some u → r[i + d + 1]? = some v → K u < K v
  | 0, i, u, v, h1, h2 => h.rise i u v h1 h2
  | d + 1, i, u, v, h1, h2 => by
    have hl : i + d + 1 < r.length := by
      have := (List.getElem?_eq_some_iff.1 h2).1
      omega
    have e : r[i + d + 1]? = some r[i + d + 1] := List.getElem?_eq_getElem hl
    have a := h.mono d i u _ h1 e
    have b := h.rise (i + d + 1) _ v e h2
    omega
theorem Rises.lt {r : List α} (h : Rises D K Seen r) {i j : Nat} {u v : α} (h1 : r[i]? = some u) (h2 : r[j]? = some v) (hij : i < j) : K u < K v :=
  h.mono (j - i - 1) i u v h1 (by rw [show i + (j - i - 1) + 1 = j by omega]; exact h2)
/-- A side of the way there leads towards its end. -/
theorem Rises.tow (hP : Pl D K) {T : List α} (hT : Rises D K Seen T) (first : ∀ f, T[0]? = some f → ∀ j, Seen j → K f ≤ K j) {i : Nat} {x k : α} (e1 : T[i]? = some x) (e2 : T[i + 1]? = some k) : Towards D K Seen x k := by
  obtain ⟨h1, h2, h3⟩ := in_corner hP hT first e1 e2
  exact ⟨h2, fun _ => h3, fun h => by omega, by omega⟩
theorem Towards.neg {x k : α} (h : Towards D (fun x => -K x) Seen x k) : Towards D K Seen x k :=
  ⟨h.left, fun hk j hj hz hlt => h.backward (by omega) j hj hz (by omega), fun hk j hj hz hlt => h.ahead (by omega) j hj hz (by omega), fun e => h.apart (by omega)⟩
theorem Round.tow (hP : Pl D K) {T U : List α} {p q : Nat} (h : Round T U p q) (hT : Rises D K Seen T) (hU : Rises D (fun x => -K x) Seen U)
    (fT : ∀ f, T[0]? = some f → ∀ j, Seen j → K f ≤ K j) (fU : ∀ f, U[0]? = some f → ∀ j, Seen j → -K f ≤ -K j) {i : Nat} (hi : i < p + q) {u v : α} (e1 : (ring T U p q)[i]? = some u) (e2 : (ring T U p q)[(i + 1) % (p + q)]? = some v) : Towards D K Seen u v := by
  rw [h.at hi] at e1
  rw [h.next hi] at e2
  by_cases hp : i < p
  · rw [if_pos hp] at e1
    rw [if_pos (by omega)] at e2
    exact hT.tow hP fT e1 e2
  · rw [if_neg hp] at e1
    rw [if_neg (by omega)] at e2
    exact (hU.tow hP.neg fU e1 (by rw [show i - p + 1 = i + 1 - p by omega]; exact e2)).neg
/-- No corner comes twice. -/
theorem Round.nodup (hP : Pl D K) (hA : Aff D K) {T U : List α} {p q : Nat} (h : Round T U p q) (hT : Rises D K Seen T) (hU : Rises D (fun x => -K x) Seen U)
    (fT : ∀ f, T[0]? = some f → ∀ j, Seen j → K f ≤ K j) {i j : Nat} (hij : i < j) (hj : j < p + q) {x : α} (e1 : (ring T U p q)[i]? = some x) (e2 : (ring T U p q)[j]? = some x) : False := by
  have p1 := h.p1
  have q1 := h.q1
  rw [h.at (by omega)] at e1
  rw [h.at hj] at e2
  by_cases hjp : j < p
  · rw [if_pos (by omega)] at e1
    rw [if_pos hjp] at e2
    have := hT.lt e1 e2 hij
    omega
  · rw [if_neg hjp] at e2
    by_cases hip : i < p
    · rw [if_pos hip] at e1
      have get : ∀ {l : List α} {k : Nat}, k < l.length → ∃ z, l[k]? = some z := fun hk => ⟨_, List.getElem?_eq_getElem hk⟩
      by_cases hj0 : j = p
      · rw [hj0, Nat.sub_self, ← h.join] at e2
        have := hT.lt e1 e2 hip
        omega
      · by_cases hi0 : i = 0
        · subst hi0
          rw [← h.close] at e1
          have := hU.lt e2 e1 (by omega)
          omega
        · obtain ⟨a, ha⟩ := get (l := T) (k := i - 1) (by rw [h.lenT]; omega)
          obtain ⟨b, hb⟩ := get (l := T) (k := i + 1) (by rw [h.lenT]; omega)
          obtain ⟨c, hc⟩ := get (l := U) (k := j - p - 1) (by rw [h.lenU]; omega)
          have e1' : T[i - 1 + 1]? = some x := by rw [show i - 1 + 1 = i by omega]; exact e1
          have e2' : U[j - p - 1 + 1]? = some x := by rw [show j - p - 1 + 1 = j - p by omega]; exact e2
          have sa := hT.part a (List.mem_of_getElem? ha)
          have sc := hU.part c (List.mem_of_getElem? hc)
          have d1 := hT.left (i - 1) a x c ha e1' sc
          have d2 := hU.left (j - p - 1) c x a hc e2' sa
          have r1 := hP.rot a x c
          have r2 := hP.rot x c a
          have r3 := hP.swp c x a
          have r4 := hP.swp a c x
          refine no_between hP hA (hT.tow hP fT e1 hb) sa sc (hT.rise _ a x ha e1') (by have := hU.rise _ c x hc e2'; omega) (by omega)
    · rw [if_neg hip] at e1
      have := hU.lt e1 e2 (by omega)
      omega
end
theorem ring_len {s : Pts} (h2 : ¬s.length < 2) {T U : Pts} (hT : T = (wayOf D s).reverse) (hU : U = (wayOf D s.reverse).reverse) : ringL s = ring T U (T.length - 1) (U.length - 1) := by
  unfold ringL ring
  rw [if_neg h2, List.dropLast_eq_take, List.dropLast_eq_take, hT, hU]
theorem ring_ok {l : Pts} (hc : ∀ x ∈ l, CdP x) {a b : Pt} (ha : a ∈ l) (hb : b ∈ l) (hab : K a < K b) : RingOK l (ringL (hullS l)) := by
  have hl : l ≠ [] := fun e => by rw [e] at ha; simp at ha
  have hw := hull_there hc hl
  have hu := hull_back hc hl
  have s2 : ¬(hullS l).length < 2 := by
    intro h
    have h1 := hw.two ha hb hab
    have h2 : ∃ z, hullS l = [z] := by
      cases hs : hullS l with
      | nil => exact absurd hs (hull_ne hc hl)
      | cons z t =>
        cases t with
        | nil => exact ⟨z, rfl⟩
        | cons y t => rw [hs] at h; simp at h; omega
    obtain ⟨z, hz⟩ := h2
    rw [hz] at h1
    simp [wayOf, pops] at h1
  have hr := round_of hw hu ha hb hab
  have eR := ring_len s2 (T := (wayOf D (hullS l)).reverse) (U := (wayOf D (hullS l).reverse).reverse) rfl rfl
  rw [List.length_reverse, List.length_reverse] at eR
  have hT := hw.rises
  have hU := hu.rises
  have fT : ∀ f, (wayOf D (hullS l)).reverse[0]? = some f → ∀ j, j ∈ l → K f ≤ K j := fun f e j hj => by
    rw [← List.head?_eq_getElem?, List.head?_reverse] at e
    exact (hw.low f e j hj).1
  have fU : ∀ f, (wayOf D (hullS l).reverse).reverse[0]? = some f → ∀ j, j ∈ l → -K f ≤ -K j := fun f e j hj => by
    rw [← List.head?_eq_getElem?, List.head?_reverse] at e
    exact (hu.low f e j hj).1
  have hlen := hr.length
  rw [eR]
  have inj : ∀ x ∈ l, ∀ y, y ∈ l → K y = K x → y = x := fun x hx y hy e => K_inj (hc y hy) (hc x hx) e
  refine ⟨by rw [hlen]; have := hr.p1; have := hr.q1; omega, fun x hx => ?_, fun i j x e1 e2 => ?_, fun i u v e1 e2 => ?_, fun h3 i a b c e1 e2 e3 => ?_, fun f e x hx => ?_, fun x hx k hk ht => ?_⟩
  · rcases List.mem_append.1 hx with h | h
    · exact hT.part x (List.mem_of_mem_take h)
    · exact hU.part x (List.mem_of_mem_take h)
  · have l1 := (List.getElem?_eq_some_iff.1 e1).1
    have l2 := (List.getElem?_eq_some_iff.1 e2).1
    rw [hlen] at l1 l2
    rcases Nat.lt_trichotomy i j with h | h | h
    · exact (hr.nodup plDK affDK hT hU fT h l2 e1 e2).elim
    · exact h
    · exact (hr.nodup plDK affDK hT hU fT h l1 e2 e1).elim
  · have l1 := (List.getElem?_eq_some_iff.1 e1).1
    rw [hlen] at l1 e2
    exact hr.tow plDK hT hU fT fU l1 e1 e2
  · have l1 := (List.getElem?_eq_some_iff.1 e1).1
    rw [hlen] at l1 e2 e3 h3
    exact hr.turns plDK hT hU h3 l1 e1 e2 e3
  · rw [hr.at (by have := hr.p1; omega), if_pos (by have := hr.p1; omega)] at e
    exact fT f e x hx
  · have hm : x ∈ wayOf D (hullS l) ∨ x ∈ wayOf D (hullS l).reverse := by
      rcases Int.lt_or_le (K x) (K k) with h | h
      · exact .inl (corner_in plDK affDK hw hx h ht.left (ht.ahead h) (fun y hy e => inj x hx y hy e))
      · have h' : K k < K x := by have := ht.apart; omega
        exact .inr (corner_in plDK.neg affDK.neg hu (x := x) (k := k) hx (by omega) ht.left (fun j hj hz hlt => ht.backward h' j hj hz (by omega)) (fun y hy e => inj x hx y hy (by omega)))
    have := ring_has (hull_is hc).rising hm
    rw [eR] at this
    exact this
end Go.Proofs.Ytgeoffpcmkofkaa
/- The same with no list at all. -/
namespace Go.Proofs.Ytgeoffpcmkofkaa
open Go Go.Conc Go.RowKit Fl Go.Maps
set_option maxRecDepth 100000

theorem none_WR {w : World} {G : Nat} {FS : FuncId → Prop} (hG : G ≤ w.heap.size) : WR G FS (fun _ => False) (fun _ _ => False) w w :=
  ⟨fun _ _ h => h.elim, fun _ _ _ h => h.elim, fun _ _ _ h => h.elim, fun _ h => h.elim, hG, fun _ _ => rfl⟩
theorem around_runsN {N : Nat} {out : Pts} {w : World} (hC : AroundN out) (hG : GN ≤ w.heap.size) (base : List Frame) :
    Runs Try.prog (· < N) base (FinV GN (FSof fsB) (fun _ => False) Try.prog (· < N) (PostV Try.prog 70 fun v w' => RowQ 0 v w' out)) (fun _ => False) (Frame.enter Try.prog 70 #[.slice none 0 0] .normal) base w := by
  refine runs_of_calls (G := GN) (FS := FSof fsB) (Sh := fun _ => False) (Q := fun v w' => RowQ 0 v w' out) (openOK (Nat.le_refl _)) bodies noEarly fs70 (B := fun _ _ => False) (xs := #[.slice none 0 0]) ?_ (none_WR hG) (fun r r' hb => hb.elim) (fun v w T h => rowQ_on h) (fun T => hC (on w T)) base
  exact .cons (.sliceNil _ _) .nil
theorem around_finN {N : Nat} {out : Pts} {O : Nat → Prop} {fr : Frame} {w : World} (hm : fr.mode = .returning) (h : ∀ w2, Keeps O (· < N) w w2 → FinV GN (FSof fsB) (fun _ => False) Try.prog (· < N) (PostV Try.prog 70 fun v w' => RowQ 0 v w' out) O fr w2) :
    ∃ v', RowO O w v' out ∧ ∀ main w2 c rest, stepG Try.prog main (G fr (c :: rest)) w2 = .go (G (c.finish v') rest) w2 #[] := by
  obtain ⟨v', h1, h2⟩ := fin_ret2 bodies fs70 h hm
  obtain ⟨B, v, wl, q1, q2, q3, q4⟩ := h1 w (Keeps.refl _ _ _)
  exact ⟨v', row_fin (fun r h => h.elim) q1 q2 q3 q4, fun main w2 c rest => h2 w2 main c rest⟩
/-- The main goroutine calls it. -/
theorem A.aroundN {Post : Value → World → Prop} {out : Pts} {w : World} {x : Frame} {cs : List Frame} (hC : AroundN out) (hG : GN ≤ w.heap.size)
    (h : ∀ v w', RowO (w.heap.size ≤ ·) w' v out → Kept w w' → A Try.prog Post (x.finish v) cs w') :
    A Try.prog Post (Frame.enter Try.prog 70 #[.slice none 0 0] .normal) (x :: cs) w := by
  have hR := around_runsN (N := w.heap.size) hC hG (x :: cs)
  refine A.of_runs hR (fun r hr => hr.elim (fun h => h.elim) id) fun O' fr w' hm hf q1 q2 q3 q4 q5 q6 => ?_
  obtain ⟨v', h1, h2⟩ := around_finN hm hf
  refine .ctl (fun w2 => h2 true w2 x cs) (h v' w' ?_ ⟨q4, q5, q3, fun r hr => q6 r hr fun h => h.elim⟩)
  exact h1.imp id fun ⟨g, cap, e1, e2, e3⟩ => ⟨g, cap, e1, (q1 g e2).elim (fun h => h.elim) id, e3⟩

set_option maxHeartbeats 800000 in
theorem cut_nil (w : World) : Calls Try.prog 90 #[.slice none 0 0] w fun e w' => ∃ v, e = .returned v ∧ Hid (CutI 0 0 0 w w' v 0) := by
  go_enter Try.func90, Try.ntmps90
  go_wp2_with fail
  go_loop [3, 4] (fun v i => v = .slice none 0 0 ∧ i = .int .i64 0) (fun _ _ => 0)
  case atStart => exact ⟨rfl, rfl⟩
  case round =>
    obtain ⟨rfl, rfl⟩ := hrel
    go_wp2_with fail
    go_ret
    exact ⟨_, rfl, New.refl _, World.ownsRow_nil _ _ _ _⟩
set_option maxHeartbeats 1000000 in
theorem A.partsN {Post : Value → World → Prop} {w : World} {x : Frame} {cs : List Frame} (h : ∀ v w', Out71 w w' v [] → A Try.prog Post (x.finish v) cs w') :
    A Try.prog Post (Frame.enter Try.prog 71 #[.slice none 0 0] .normal) (x :: cs) w := by
  rw [Conc.enter_at _ Try.func71 (c := Try.f71.body.getD .skip) rfl]
  walk_nrmf Try.f71
  refine .ctl (fun _ => stepG_seq) ?_
  refine .ctl (fun _ => stepG_region) ?_
  walk_nrm
  refine .mov (.slice none 0 0) rfl rfl (.inr rfl) rfl (by decide) ?_
  walk_nrm
  refine .ctl (fun _ => stepG_region_end) ?_
  refine .ctl (fun _ => stepG_seq) ?_
  refine .ctl (fun _ => stepG_region) ?_
  walk_nrm
  refine .mov (.slice none 0 0) rfl rfl (.inr rfl) rfl (by decide) ?_
  walk_nrm
  refine .ctl (fun _ => stepG_region_end) ?_
  refine .ctl (fun _ => stepG_seq) ?_
  refine .ctl (fun _ => stepG_seq) ?_
  refine .ctl (fun _ => stepG_region) ?_
  walk_nrm
  refine .mov (.slice none 0 0) rfl rfl (.inl rfl) rfl (by decide) ?_
  walk_nrm
  refine .ent (f := 90) (xs := #[.slice none 0 0]) rfl rfl (by decide) (fun w' => by go_simp) (fun w' => by simp [go_sem, callFunc, Try.func90, Try.f90]) ?_
  refine A.call bodP noEarly fs90 Try.func90 (c := Try.f90.body.getD .skip) rfl (Q := fun v w' => CutK 0 0 0 w w' v 0) (fun v w1 w2 k q => ⟨q.kept.same k, owns_same q.own k⟩) (fun w' hs => (cut_nil w').mono ?_) fun pcv w1 hq => ?_
  · rintro e w2 ⟨v, rfl, H⟩
    refine ⟨v, rfl, H.out.new.kept0 hs, ?_⟩
    have := H.out.own
    rw [show w'.heap.size = w.heap.size by rw [hs.heap]] at this
    exact this
  rw [Frame.finish_at]
  walk_nrm
  -- the others are started
  have hsz1 := hq.kept.size
  refine A.of_MB (Fin := Fin71 x cs w (([] : Pts))) (fun w2 hs => ?_) fun a w' hf => ?_
  · have hpcv : ∃ b cap, pcv = .slice b (0) cap := by
      rcases hq.own.2 with ⟨e, e2⟩ | ⟨g, cap, cur, e1, _⟩
      · exact ⟨none, 0, by rw [e, e2]⟩
      · exact ⟨_, cap, e1⟩
    refine .val (.int .i64 (0 : Nat)) rfl rfl (by decide) (fun w3 _ => ?_) (fun w3 _ => ?_) ?_
    · obtain ⟨b, cap, rfl⟩ := hpcv
      go_simp
    · obtain ⟨b, cap, rfl⟩ := hpcv
      simp [go_sem]
    walk_nrm
    refine .mov (.int .i64 0) rfl rfl (.inl rfl) rfl (by decide) ?_
    walk_nrm
    refine .ctl rfl rfl (fun _ => stepG_region_end) ?_
    refine .ctl rfl rfl (fun _ => stepG_block) ?_
    refine .ctl rfl rfl (fun _ => stepG_loop) ?_
    have hs2 : w2.heap.size = w1.heap.size := by rw [hs.heap]
    refine start71 (N := w1.heap.size) (ws := w2) (outs := fun _ => []) (parts := partV 0 0 0) (m := 0) (by omega) (by simp [cat]) (fun hm => ?_) (fun i _ => ⟨_, _, _, rfl⟩) (fun i hi ch w3 hold hle => ?_) (fun O w3 pv cl av tmps todo hM ht => ⟨tmps, todo, av, rfl, ht, hq.kept.trans ⟨hM.m0.os.trans hs.os, hM.m0.output.trans hs.output, hM.m0.size, fun r hr => by rw [hM.m0.old r hr, hs.heap]⟩, own_base hsz1 hM.a, hM.ai⟩) (0) 0 (by omega) _ w2 _ [] _ _ _ _ _ _ _ _ _ _ _ _ _ _ rfl ?_ ?_ ?_
    · omega
    · omega
    · exact ⟨⟨fun r h => h.elim, fun _ _ => rfl, by rw [hs2]; exact Nat.le_refl _, rfl, rfl⟩, ⟨rfl, .inl ⟨rfl, rfl⟩⟩, (fun g hg => by cases hg), ⟨rfl, .inl ⟨rfl, rfl⟩⟩, (fun g hg => by cases hg), (fun g hg => by cases hg), (fun g hg => by cases hg)⟩
    · exact ⟨(fun i c _ hc => by simp at hc), (fun c o hc => by cases hc), (fun i i' c hc => by simp at hc)⟩
    · exact fun i c hc => by simp at hc
  · obtain ⟨tmps, todo, av, rfl, ht, hO⟩ := hf
    refine ⟨_, _, rfl, ?_⟩
    refine .ctl (fr1 := x.finish av) (cs1 := cs) (fun w3 => ?_) (h av w' hO)
    refine stepG_leave rfl rfl Try.func71 ?_ ?_
    · subst ht
      simp [results, Try.f71]
    · simp [results, Try.f71]
end Go.Proofs.Ytgeoffpcmkofkaa
/- hull.Of, of no points. -/
namespace Go.Proofs.Ytgeoffpcmkofkaa
open Go Go.Conc Go.RowKit Fl Go.Maps
set_option maxRecDepth 100000
attribute [local go_sem ↓] Go.wp_at_zero Go.wp_at_succ

/-- A list without points. -/
def NoPts (w : World) (lv : Value) : Prop := lv = .slice none 0 0 ∨ ∃ r0 cap c, lv = .slice (some ⟨r0, 0, none⟩) 0 cap ∧ w.heap[r0]? = some (.cells c 23 (0, 0)) ∧ (∀ x ∈ c.toList, ∃ n, x = .int .i64 n) ∧ GN ≤ r0
theorem NoPts.same {w w' : World} {lv : Value} (h : NoPts w lv) (k : Same w w') : NoPts w' lv := h.imp id fun ⟨r0, cap, c, h1, h3, h4⟩ => ⟨r0, cap, c, h1, by rw [k.heap]; exact h3, h4⟩
theorem NoPts.kept {w w' : World} {lv : Value} (h : NoPts w lv) (k : Kept w w') : NoPts w' lv := h.imp id fun ⟨r0, cap, c, h1, h3, h4⟩ => ⟨r0, cap, c, h1, by rw [k.block r0 (Array.getElem?_eq_some_iff.1 h3).1]; exact h3, h4⟩
theorem first_E {w : World} {lv : Value} (h : NoPts w lv) : Calls Try.prog 69 #[lv] w fun e w' => ∃ b, e = .returned (.map (some b)) ∧ Hid (New w w' ∧ w.heap.size ≤ b ∧ MapI w' b ([] : Pts).length (numN [] ([] : Pts).length)) := by
  rcases h with rfl | ⟨r0, cap, c, rfl, h3, _, _⟩
  · exact first_nil w
  · exact first_some r0 cap [] w (fun i hi => by simp at hi) (Array.getElem?_eq_some_iff.1 h3).1 (by simp) (by simp)
theorem dis_nil : IsDis [] [] := ⟨fun i j x y h => by simp at h, fun x => Iff.rfl, Nat.le_refl _⟩
theorem A.partsE {Post : Value → World → Prop} {w : World} {lv : Value} {x : Frame} {cs : List Frame} (hlv : NoPts w lv) (h : ∀ v w', Out71 w w' v [] → A Try.prog Post (x.finish v) cs w') : A Try.prog Post (Frame.enter Try.prog 71 #[lv] .normal) (x :: cs) w := by
  rcases hlv with rfl | ⟨r0, cap, c, rfl, h3, h4, h5⟩
  · exact A.partsN h
  · exact A.parts (off := 0) (n := 0) (outs := fun _ => []) (by omega) (by omega) h3 h4 h5 (fun i hi => by omega) (by simp [cat]) (by simp) h
theorem A.aroundE {Post : Value → World → Prop} {w1 w : World} {v : Value} {x : Frame} {cs : List Frame} (hO : Out71 w1 w v []) (hG : GN ≤ w1.heap.size)
    (h : ∀ v w', (∃ ad c, v = .slice ad 0 c) → Kept w w' → A Try.prog Post (x.finish v) cs w') : A Try.prog Post (Frame.enter Try.prog 70 #[v] .normal) (x :: cs) w := by
  rcases hO.row.2 with ⟨rfl, _⟩ | ⟨g, cap, cur, rfl, hb, hg, _⟩
  · refine A.aroundN Ytgeoffpcmkofkaa.aroundN (Nat.le_trans hG hO.kept.size) fun v w' hR hK => h v w' ?_ hK
    rcases hR with ⟨rfl, _⟩ | ⟨g, c, rfl, _⟩
    · exact ⟨none, 0, rfl⟩
    · exact ⟨_, c, rfl⟩
  · refine A.around (off := 0) (n := 0) (out := ringL []) (aroundC (l := []) (s := []) (fun i hi => by simp at hi) (by simp) (by simp) dis_nil) hg (hO.ints g rfl cur 23 (0, 0) hg) (by omega) fun v w' hR q1 q2 q3 q4 => h v w' ?_ ⟨q2, q3, q1, q4⟩
    rcases hR with ⟨rfl, _⟩ | ⟨g, c, rfl, _⟩
    · exact ⟨none, 0, rfl⟩
    · exact ⟨_, c, rfl⟩
set_option maxHeartbeats 1600000 in
theorem rest54E (lv : Value) (ad : Option Addr) (cap b : Nat) (w : World) (h1 h2 h3 h4 : Value) :
    c54.wp Try.prog (fun e a w' => (e = .normal ∨ e = .ret) ∧ ∃ v, a.tmps.getD 2 undef = v ∧ Hid (Kept w w' ∧ w'.ownsRow w.heap.size 3 1 v 0 []))
      { tmps := #[lv, undef, .slice none 0 0, .map (some b), .slice ad 0 cap, undef, undef, undef, h1, h2, h3, h4, .slice ad 0 cap, undef, undef, undef, undef, undef, undef, undef, undef, undef, undef, undef, undef, undef, undef, undef, undef, undef, undef], defers := [] } w := by
  simp only [c54, Try.f54]
  obtain ⟨i0, hi0, hz0, hz1, hz2⟩ := info_parts Try.info3
  obtain ⟨w1, k1, k2, k3⟩ := run_make_full (P := Try.prog) w w.heap.size 46 3 i0 _ 1 Try.underlying46 hi0 hz0 hz1 .i64 .i64 0 (by omega) (by unfold maxLen; omega) (Nat.le_refl _)
  have HN : Hid (Kept w w1 ∧ w1.ownsRow w.heap.size 3 1 (.slice (some ⟨w.heap.size, 0, none⟩) 0 0) 0 []) := ⟨⟨k3.os, k3.output, k3.size, fun r hr => k3.block r hr (by simp)⟩, by simpa [madeCells] using k2⟩
  have k1' : (Instr.makeSlice 46 (.int .i64 0) (.int .i64 0)).run Try.prog w = .ok (.slice (some ⟨w.heap.size, 0, none⟩) 0 0) w1 := k1
  clear k1 k2 k3 hi0 hz0 hz1 hz2
  go_wp2_with fail
  go_loop [18] (fun i => i = .int .i64 0) (fun _ => 0)
  case atStart => rfl
  case round =>
    subst hrel
    go_wp2_with fail
set_option maxHeartbeats 1000000 in
theorem A.hullOfE {Post : Value → World → Prop} {lv : Value} {w : World} {x : Frame} {cs : List Frame} (hlv : NoPts w lv) (hG : GN ≤ w.heap.size) (h : ∀ v w', OutN w w' v [] → A Try.prog Post (x.finish v) cs w') :
    A Try.prog Post (Frame.enter Try.prog 54 #[lv] .normal) (x :: cs) w := by
  rw [Conc.enter_at _ Try.func54 (c := Try.f54.body.getD .skip) rfl]
  walk_nrmf Try.f54
  refine .ctl (fun _ => stepG_seq) ?_
  refine .ctl (fun _ => stepG_region) ?_
  walk_nrm
  refine .mov (.slice none 0 0) rfl rfl (.inr rfl) rfl (by decide) ?_
  walk_nrm
  refine .ctl (fun _ => stepG_region_end) ?_
  refine .ctl (fun _ => stepG_seq) ?_
  refine .ctl (fun _ => stepG_region) ?_
  walk_nrm
  refine .mov lv rfl rfl (.inl rfl) rfl (by decide) ?_
  walk_nrm
  refine .ent (f := 69) (xs := #[lv]) rfl rfl (by decide) (fun w' => by go_simp) (fun w' => by simp [go_sem, callFunc, Try.func69, Try.f69]) ?_
  refine A.call bodP noEarly fs69 Try.func69 (c := Try.f69.body.getD .skip) rfl (Q := fun v w' => FnK w w' v []) (fun v w1 w2 k q => ⟨q.kept.same k, let ⟨b, h1, h2, h3⟩ := q.map; ⟨b, h1, h2, h3.heap (by rw [k.heap])⟩⟩) (fun w' hs' => (first_E (hlv.same hs')).mono ?_) fun mv1 w1 hq => ?_
  · rintro e w2 ⟨b, rfl, H⟩
    refine ⟨_, rfl, H.out.1.kept0 hs', b, rfl, ?_, H.out.2.2⟩
    have := H.out.2.1
    rwa [hs'.heap] at this
  obtain ⟨bm, rfl, hbm, hmap⟩ := hq.map
  rw [Frame.finish_at]
  walk_nrm
  refine .mov (.map (some bm)) rfl rfl (.inr rfl) rfl (by decide) ?_
  walk_nrm
  refine .ctl (fun _ => stepG_region_end) ?_
  refine .ctl (fun _ => stepG_seq) ?_
  refine .ctl (fun _ => stepG_region) ?_
  walk_nrm
  refine .mov lv rfl rfl (.inl rfl) rfl (by decide) ?_
  walk_nrm
  refine .ent (f := 71) (xs := #[lv]) rfl rfl (by decide) (fun w' => by go_simp) (fun w' => by simp [go_sem, callFunc, Try.func71, Try.f71]) ?_
  refine A.partsE (hlv.kept hq.kept) fun v1 w2 hO => ?_
  have hG2 : GN ≤ w2.heap.size := Nat.le_trans hG (Nat.le_trans hq.kept.size hO.kept.size)
  have hq1 := hq.kept.size
  rw [Frame.finish_at]
  walk_nrm
  refine .ent (f := 70) (xs := #[v1]) rfl rfl (by decide) (fun w' => by go_simp) (fun w' => by simp [go_sem, callFunc, Try.func70, Try.f70]) ?_
  refine A.aroundE hO (Nat.le_trans hG hq.kept.size) fun v2 w3 hR hK3 => ?_
  obtain ⟨ad, c3, rfl⟩ := hR
  rw [Frame.finish_at]
  walk_nrm
  refine .mov (.slice ad 0 c3) rfl rfl (.inr rfl) rfl (by decide) ?_
  walk_nrm
  refine .ctl (fun _ => stepG_region_end) ?_
  have hk3 : Kept w w3 := (hq.kept.trans hO.kept).trans hK3
  refine A.rest bodP noEarly (b := base 54) Try.func54 rfl (c := c54) codeP54 rfl (Q := fun a w' => ∃ v, a.tmps.getD 2 undef = v ∧ OutN w w' v []) (fun a w1 w2 k q => ?_) (fun w' hs' => ?_) fun a' w' todo hd hQ => ?_
  · obtain ⟨v, h1, h2⟩ := q
    exact ⟨v, h1, h2.kept.same k, owns_same h2.row k⟩
  · refine Go.wp_mono (rest54E _ ad c3 bm w' _ _ _ _) fun e a w2 hh => ?_
    obtain ⟨h1, v, h2, h3⟩ := hh
    refine ⟨h1, v, h2, (hk3.same hs').trans h3.out.1, ?_⟩
    exact own_base (N := w.heap.size) (by have := (hk3.same hs').size; exact this) h3.out.2
  · obtain ⟨v, h1, h2⟩ := hQ
    refine .ctl (fr1 := x.finish v) (cs1 := cs) (fun w3 => ?_) (h v w' h2)
    obtain ⟨tmps, dfs⟩ := a'
    simp only at hd h1
    subst hd
    refine stepG_leave rfl rfl Try.func54 ?_ ?_
    · subst h1
      simp [results, Try.f54]
    · simp [results, Try.f54]
end Go.Proofs.Ytgeoffpcmkofkaa
/- plumb.Hull, beside goroutines that only leave. -/
namespace Go.Proofs.Ytgeoffpcmkofkaa
open Go Go.Conc Go.RowKit Fl Go.Maps
set_option maxRecDepth 100000

theorem fs50 : FSof fsI 50 := by decide
theorem PolyAt.heap {w w' : World} {ao : Option Addr} {l : Pts} (h : PolyAt w ao l) (e : w'.heap = w.heap) : PolyAt w' ao l := fun h0 => by
  obtain ⟨g, off, h1, h2, h3⟩ := h h0
  exact ⟨g, off, h1, h2.heap (by rw [e]), by rw [e]; exact h3⟩
set_option maxHeartbeats 1000000 in
theorem A.hull32 {Post : Value → World → Prop} {ao : Option Addr} {cap : Nat} {l : Pts} {w : World} {x : Frame} {cs : List Frame} {nums : List Value} (hpoly : PolyAt w ao l)
    (hgood : errL l = 0 → ∀ (w1 : World) (y : Frame), Kept w w1 → (∀ v w', OutN w1 w' v nums → A Try.prog Post (y.finish v) (x :: cs) w') → A Try.prog Post (Frame.enter Try.prog 54 #[.slice ao l.length cap] .normal) (y :: x :: cs) w1)
    (hbad : errL l ≠ 0 → ∀ w', Kept w w' → A Try.prog Post (x.finish (.tuple #[.slice none 0 0, .int .i64 (errL l)])) cs w')
    (h : errL l = 0 → ∀ v w', OutN w w' v nums → A Try.prog Post (x.finish (.tuple #[v, .int .i64 0])) cs w') :
    A Try.prog Post (Frame.enter Try.prog 32 #[.slice ao l.length cap] .normal) (x :: cs) w := by
  rw [Conc.enter_at _ Try.func32 (c := Try.f32.body.getD .skip) rfl]
  walk_nrmf Try.f32
  refine .ctl (fun _ => stepG_seq) ?_
  refine .ctl (fun _ => stepG_region) ?_
  walk_nrm
  refine .mov (.slice none 0 0) rfl rfl (.inr rfl) rfl (by decide) ?_
  walk_nrm
  refine .mov (.int .i64 0) rfl rfl (.inr rfl) rfl (by decide) ?_
  walk_nrm
  refine .ctl (fun _ => stepG_region_end) ?_
  refine .ctl (fun _ => stepG_seq) ?_
  refine .ctl (fun _ => stepG_seq) ?_
  refine .ctl (fun _ => stepG_region) ?_
  walk_nrm
  refine .mov (.slice ao l.length cap) rfl rfl (.inl rfl) rfl (by decide) ?_
  walk_nrm
  refine .ent (f := 50) (xs := #[.slice ao l.length cap]) rfl rfl (by decide) (fun w' => by go_simp) (fun w' => by simp [go_sem, callFunc, Try.func50, Try.f50]) ?_
  refine A.call bodP noEarly fs50 Try.func50 (c := Try.f50.body.getD .skip) rfl (Q := fun v w' => v = .int .i64 (errL l) ∧ Kept w w') (fun v w1 w2 k q => ⟨q.1, q.2.same k⟩) (fun w' hs' => (checkList_len ao cap l w' (hpoly.heap hs'.heap)).mono ?_) fun ev w1 hq => ?_
  · rintro e w2 ⟨rfl, H⟩
    exact ⟨_, rfl, rfl, H.out.kept0 hs'⟩
  obtain ⟨rfl, hK⟩ := hq
  rw [Frame.finish_at]
  walk_nrm
  refine .mov (.int .i64 (errL l)) rfl rfl (.inr rfl) rfl (by decide) ?_
  walk_nrm
  refine .ctl (fun _ => stepG_region_end) ?_
  refine .ctl (fun _ => stepG_seq) ?_
  refine .ctl (fun _ => stepG_region) ?_
  walk_nrm
  refine .mov (.int .i64 (errL l)) rfl rfl (.inl rfl) rfl (by decide) ?_
  walk_nrm
  refine .val (.bool (decide (errL l ≠ 0))) bodP.func rfl rfl (by decide) trivial (fun w' _ => ?_) ?_
  · simp [go_sem]
    by_cases he : errL l = 0 <;> simp [he]
  walk_nrm
  refine .ctl (fun _ => stepG_region_end) ?_
  by_cases he : errL l = 0
  · refine .ctl (fun _ => stepG_cond (t := false) (by simp [Act.eval, he])) ?_
    simp only [Bool.false_eq_true, if_false]
    refine .ctl (fun _ => stepG_skip) ?_
    refine .ctl (fun _ => stepG_seq) ?_
    refine .ctl (fun _ => stepG_region) ?_
    walk_nrm
    refine .mov (.slice ao l.length cap) rfl rfl (.inl rfl) rfl (by decide) ?_
    walk_nrm
    refine .ent (f := 54) (xs := #[.slice ao l.length cap]) rfl rfl (by decide) (fun w' => by go_simp) (fun w' => by simp [go_sem, callFunc, Try.func54, Try.f54]) ?_
    refine hgood he w1 _ hK fun v w2 hO => ?_
    rw [Frame.finish_at]
    walk_nrm
    refine .mov v rfl rfl (.inr rfl) rfl (by decide) ?_
    walk_nrm
    refine .mov (.int .i64 0) rfl rfl (.inr rfl) rfl (by decide) ?_
    walk_nrm
    refine .ctl (fun _ => stepG_region_end) ?_
    refine .ctl (fun _ => stepG_ret') ?_
    refine .ctl (fr1 := x.finish (.tuple #[v, .int .i64 0])) (cs1 := cs) (fun w3 => ?_) (h he v w2 ⟨hK.trans hO.kept, own_base hK.size hO.row⟩)
    refine stepG_leave rfl rfl Try.func32 ?_ ?_
    · simp [results, Try.f32]
    · simp [results, Try.f32]
  · refine .ctl (fun _ => stepG_cond (t := true) (by simp [Act.eval, he])) ?_
    simp only [if_true]
    refine .ctl (fun _ => stepG_seq) ?_
    refine .ctl (fun _ => stepG_region) ?_
    walk_nrm
    refine .mov (.int .i64 (errL l)) rfl rfl (.inl rfl) rfl (by decide) ?_
    walk_nrm
    refine .mov (.slice none 0 0) rfl rfl (.inr rfl) rfl (by decide) ?_
    walk_nrm
    refine .mov (.int .i64 (errL l)) rfl rfl (.inr rfl) rfl (by decide) ?_
    walk_nrm
    refine .ctl (fun _ => stepG_region_end) ?_
    refine .ctl (fun _ => stepG_ret') ?_
    refine .ctl (fr1 := x.finish (.tuple #[.slice none 0 0, .int .i64 (errL l)])) (cs1 := cs) (fun w3 => ?_) (hbad he w1 hK)
    refine stepG_leave rfl rfl Try.func32 ?_ ?_
    · simp [results, Try.f32]
    · simp [results, Try.f32]
theorem errL_zero {l : Pts} (h : errL l = 0) : l.length ≤ 40 ∧ ∀ x ∈ l, CdP x := by
  unfold errL at h
  split at h
  · cases h
  · rcases okE_vals l with ⟨_, h2⟩ | ⟨h1, _⟩
    · exact ⟨by omega, fun x hx => okB_cd h2 hx⟩
    · rw [h1] at h; cases h
theorem ring_ne {s : Pts} (h : s ≠ []) : ringL s ≠ [] := by
  unfold ringL
  split
  · exact h
  · intro e
    have h1 := way_len (s := s) (by omega)
    have h2 := (List.append_eq_nil_iff.1 e).1
    have h3 := congrArg List.length h2
    simp at h3
    omega
/-- A list of points, as it is handed in. -/
def RowL (w : World) (lv : Value) (l : Pts) : Prop := (lv = .slice none 0 0 ∧ l = []) ∨ ∃ r0 cap c, lv = .slice (some ⟨r0, 0, none⟩) l.length cap ∧ l.length ≤ cap ∧ w.heap[r0]? = some (.cells c 23 (0, 0)) ∧ (∀ x ∈ c.toList, ∃ n, x = .int .i64 n) ∧ GN ≤ r0 ∧ PtsIn c 0 l
theorem RowL.kept {w w' : World} {lv : Value} {l : Pts} (h : RowL w lv l) (k : Kept w w') : RowL w' lv l := h.imp id fun ⟨r0, cap, c, h1, h2, h5, h6⟩ => ⟨r0, cap, c, h1, h2, by rw [k.block r0 (Array.getElem?_eq_some_iff.1 h5).1]; exact h5, h6⟩
/-- The numbers of the corners. -/
def hullN (l : Pts) : List Value := if l = [] then [] else numsOf (numN l l.length) (ringL (hullS l))
theorem A.hull {Post : Value → World → Prop} {lv : Value} {l : Pts} {w : World} {x : Frame} {cs : List Frame} (hlv : RowL w lv l) (hG : GN ≤ w.heap.size)
    (hbad : errL l ≠ 0 → ∀ w', Kept w w' → A Try.prog Post (x.finish (.tuple #[.slice none 0 0, .int .i64 (errL l)])) cs w')
    (h : errL l = 0 → ∀ v w', OutN w w' v (hullN l) → A Try.prog Post (x.finish (.tuple #[v, .int .i64 0])) cs w') :
    A Try.prog Post (Frame.enter Try.prog 32 #[lv] .normal) (x :: cs) w := by
  rcases id hlv with ⟨rfl, rfl⟩ | ⟨r0, cap, c, rfl, h2, h5, h6, h7, h8⟩
  · exact A.hull32 (ao := none) (l := []) (cap := 0) (nums := []) (fun h0 => by simp at h0) (fun _ w1 y hK k => A.hullOfE (.inl rfl) (Nat.le_trans hG hK.size) k) hbad (fun he v w' hO => h he v w' (by simpa [hullN] using hO))
  · have hlt := (Array.getElem?_eq_some_iff.1 h5).1
    refine A.hull32 (nums := hullN l) (fun h0 => ⟨r0, 0, rfl, h8.at h5, hlt⟩) (fun he w1 y hK k => ?_) hbad h
    obtain ⟨h40, hcd⟩ := errL_zero he
    have h5' : w1.heap[r0]? = some (.cells c 23 (0, 0)) := by rw [hK.block r0 hlt]; exact h5
    by_cases hn : l = []
    · subst hn
      refine A.hullOfE (.inr ⟨r0, cap, c, rfl, h5', h6, h7⟩) (Nat.le_trans hG hK.size) fun v w' hO => k v w' (by simpa [hullN] using hO)
    · refine A.hullOf (ds := partS l) (s := hullS l) (by omega) h2 h5' h6 h7 h8 hcd (part_is hcd) (hull_is hcd) (ring_ne (hull_ne hcd hn)) fun v w' hO => k v w' ?_
      rw [hullN, if_neg hn]
      exact hO
end Go.Proofs.Ytgeoffpcmkofkaa
/- The first numbers of points. -/
namespace Go.Proofs.Ytgeoffpcmkofkaa
open Go Go.RowKit Fl

theorem numN_out {l : Pts} {k : Nat} (p : Pt) (h : l[k]? = none) : numN l (k + 1) p = numN l k p := by simp only [numN, h]
theorem numN_in {l : Pts} {k : Nat} (p : Pt) {q : Pt} (h : l[k]? = some q) : numN l (k + 1) p = if (numN l k q).isSome then numN l k p else setN (numN l k) q k p := by
  simp only [numN, h]
  split <;> rfl
theorem numN_none (l : Pts) : ∀ (k : Nat) (p : Pt), numN l k p = none → ∀ i, i < k → l[i]? ≠ some p
  | 0, _, _, i, hi => by omega
  | k + 1, p, h, i, hi => by
    cases hk : l[k]? with
    | none =>
      rw [numN_out p hk] at h
      rcases Nat.lt_or_ge i k with h1 | h1
      · exact numN_none l k p h i h1
      · have : i = k := by omega
        subst this
        rw [hk]
        simp
    | some q =>
      rw [numN_in p hk] at h
      split at h
      · rename_i hs
        rcases Nat.lt_or_ge i k with h1 | h1
        · exact numN_none l k p h i h1
        · have : i = k := by omega
          subst this
          rw [hk]
          intro e
          injection e with e
          subst e
          rw [h] at hs
          simp at hs
      · unfold setN at h
        split at h
        · simp at h
        · rename_i hne
          rcases Nat.lt_or_ge i k with h1 | h1
          · exact numN_none l k p h i h1
          · have : i = k := by omega
            subst this
            rw [hk]
            intro e
            injection e with e
            exact hne e.symm
theorem numN_some (l : Pts) : ∀ (k : Nat) (p : Pt) (c : Int), numN l k p = some c → ∃ i : Nat, c = i ∧ i < k ∧ l[i]? = some p ∧ ∀ j, j < i → l[j]? ≠ some p
  | 0, _, _, h => by simp [numN] at h
  | k + 1, p, c, h => by
    have step : numN l k p = some c → ∃ i : Nat, c = i ∧ i < k + 1 ∧ l[i]? = some p ∧ ∀ j, j < i → l[j]? ≠ some p := fun h => by
      obtain ⟨i, h1, h2, h3⟩ := numN_some l k p c h
      exact ⟨i, h1, by omega, h3⟩
    cases hk : l[k]? with
    | none =>
      rw [numN_out p hk] at h
      exact step h
    | some q =>
      rw [numN_in p hk] at h
      split at h
      · exact step h
      · rename_i hs
        unfold setN at h
        split at h
        · rename_i e
          subst e
          injection h with h
          exact ⟨k, h.symm, by omega, hk, fun j hj => numN_none l k p (by simpa using hs) j hj⟩
        · exact step h
/-- The first number of a point. -/
def num (l : Pts) (p : Pt) : Nat := (atN (numN l l.length) p).toNat
structure NumOf (l : Pts) (p : Pt) (n : Nat) : Prop where
  here : l[n]? = some p
  first : ∀ j, j < n → l[j]? ≠ some p
theorem NumOf.one {l : Pts} {p : Pt} {n m : Nat} (h : NumOf l p n) (h' : NumOf l p m) : n = m := by
  rcases Nat.lt_trichotomy n m with hh | hh | hh
  · exact absurd h.here (h'.first n hh)
  · exact hh
  · exact absurd h'.here (h.first m hh)
theorem num_of {l : Pts} {p : Pt} (h : p ∈ l) : NumOf l p (num l p) ∧ atN (numN l l.length) p = (num l p : Int) := by
  obtain ⟨n, hn, e⟩ := List.mem_iff_getElem.1 h
  have e' : l[n]? = some p := by rw [List.getElem?_eq_getElem hn, e]
  cases hc : numN l l.length p with
  | none => exact absurd e' (numN_none l _ p hc n hn)
  | some c =>
    obtain ⟨i, h1, h2, h3, h4⟩ := numN_some l _ p c hc
    have ha : atN (numN l l.length) p = (i : Int) := by simp [atN, hc, h1]
    have hi : num l p = i := by unfold num; rw [ha]; rfl
    rw [hi]
    exact ⟨⟨h3, h4⟩, ha⟩
theorem num_inj {l : Pts} {p q : Pt} (hp : p ∈ l) (hq : q ∈ l) (h : num l p = num l q) : p = q := by
  have h1 := (num_of hp).1.here
  have h2 := (num_of hq).1.here
  rw [h, h2] at h1
  injection h1 with h1
  exact h1.symm
theorem num_lt {l : Pts} {p : Pt} (h : p ∈ l) : num l p < l.length := (List.getElem?_eq_some_iff.1 (num_of h).1.here).1

theorem len_le {α : Type} [DecidableEq α] : ∀ {a b : List α}, a.Nodup → (∀ x ∈ a, x ∈ b) → a.length ≤ b.length
  | [], _, _, _ => Nat.zero_le _
  | x :: a, b, h, hs => by
    have hx : x ∈ b := hs x (by simp)
    have h1 := (List.nodup_cons.1 h).1
    have := len_le (a := a) (b := b.erase x) (List.nodup_cons.1 h).2 fun y hy => by
      refine (List.mem_erase_of_ne ?_).2 (hs y (by simp [hy]))
      rintro rfl
      exact h1 hy
    rw [List.length_erase_of_mem hx] at this
    have := List.length_pos_of_mem hx
    simp
    omega
theorem RingOK.list_nodup {l R : Pts} (h : RingOK l R) : R.Nodup := by
  rw [List.Nodup, List.pairwise_iff_getElem]
  intro i j hi hj hij e
  have := h.nodup i j R[i] (List.getElem?_eq_getElem hi) (by rw [e]; exact List.getElem?_eq_getElem hj)
  omega
end Go.Proofs.Ytgeoffpcmkofkaa
/- Within a ring of corners: just left of all its sides. (Pure.) -/
namespace Go.Proofs.Ytgeoffpcmkofkaa
open Go Go.RowKit Fl

/-- Odd or even. -/
def xorTo (f : Nat → Bool) : Nat → Bool
  | 0 => false
  | k + 1 => xorTo f k ^^ f k
theorem xorTo_none {f : Nat → Bool} : ∀ {k : Nat}, (∀ i, i < k → f i = false) → xorTo f k = false
  | 0, _ => rfl
  | k + 1, h => by rw [xorTo, xorTo_none fun i hi => h i (by omega), h k (by omega)]; rfl
theorem xorTo_one {f : Nat → Bool} {m : Nat} : ∀ {k : Nat}, m < k → (∀ i, i < k → f i = true → i = m) → xorTo f k = f m
  | 0, h, _ => by omega
  | k + 1, hm, h => by
    unfold xorTo
    by_cases e : m = k
    · subst e
      rw [xorTo_none fun i hi => ?_]
      · simp
      · rw [Bool.eq_false_iff]
        intro hf
        have := h i (by omega) hf
        omega
    · have hk : f k = false := by
        rw [Bool.eq_false_iff]
        intro hf
        exact e (h k (by omega) hf).symm
      rw [hk, xorTo_one (by omega) fun i hi => h i (by omega)]
      simp
theorem xorTo_xor {f g : Nat → Bool} : ∀ k, xorTo (fun i => f i ^^ g i) k = (xorTo f k ^^ xorTo g k)
  | 0 => rfl
  | k + 1 => by
    simp only [xorTo, xorTo_xor k]
    cases xorTo f k <;> cases xorTo g k <;> cases f k <;> cases g k <;> rfl
/-- Somewhere round about it goes up. -/
theorem cyc_up {n : Nat} {s : Nat → Bool} {i j : Nat} (hi : i < n) (hj : j < n) (h1 : s i = false) (h2 : s j = true) : ∃ m, m < n ∧ s m = false ∧ s ((m + 1) % n) = true := by
  apply Classical.byContradiction
  intro hn
  have all : ∀ d, s ((i + d) % n) = false := by
    intro d
    induction d with
    | zero => rw [Nat.add_zero, Nat.mod_eq_of_lt hi]; exact h1
    | succ d ih =>
      rw [Bool.eq_false_iff]
      intro ht
      exact hn ⟨(i + d) % n, Nat.mod_lt _ (by omega), ih, by rw [Nat.mod_add_mod]; exact ht⟩
  have := all (j + n - i)
  rw [show i + (j + n - i) = j + n by omega, Nat.add_mod_right, Nat.mod_eq_of_lt hj, h2] at this
  exact absurd this (by simp)
theorem cyc_down {n : Nat} {s : Nat → Bool} {i j : Nat} (hi : i < n) (hj : j < n) (h1 : s i = false) (h2 : s j = true) : ∃ m, m < n ∧ s m = true ∧ s ((m + 1) % n) = false := by
  obtain ⟨m, h, a, b⟩ := cyc_up (s := fun k => !s k) hj hi (by simp [h2]) (by simp [h1])
  exact ⟨m, h, by simpa using a, by simpa using b⟩

theorem D_mix {W w1 w2 w3 w4 : Int} {q a b c d : Pt} (hW : W = w1 + w2 + w3 + w4) (hx : W * q.1 = w1 * a.1 + w2 * b.1 + w3 * c.1 + w4 * d.1) (hy : W * q.2 = w1 * a.2 + w2 * b.2 + w3 * c.2 + w4 * d.2) (u v : Pt) : W * D u v q = w1 * D u v a + w2 * D u v b + w3 * D u v c + w4 * D u v d := by
  simp only [D, det]
  have e : W * ((v.1 - u.1) * (q.2 - u.2) - (v.2 - u.2) * (q.1 - u.1)) = (v.1 - u.1) * (W * q.2 - W * u.2) - (v.2 - u.2) * (W * q.1 - W * u.1) := by grind
  rw [e, hx, hy, hW]
  grind
/-- Between the side that goes up and the one that goes down, at its height. -/
theorem chord {a b c d q u v : Pt} (h1 : a.2 ≤ q.2) (h2 : q.2 < b.2) (h3 : d.2 ≤ q.2) (h4 : q.2 < c.2) (s : 0 < D a b q) (t : 0 ≤ D c d q) (ha : 0 ≤ D u v a) (hb : 0 ≤ D u v b) (hc : 0 ≤ D u v c) (hd : 0 ≤ D u v d) : 0 ≤ D u v q := by
  have ey := D_mix (q := q) (a := a) (b := b) (c := c) (d := d) (W := D c d q * (b.2 - a.2) + D a b q * (c.2 - d.2)) (w1 := D c d q * (b.2 - q.2)) (w2 := D c d q * (q.2 - a.2)) (w3 := D a b q * (q.2 - d.2)) (w4 := D a b q * (c.2 - q.2)) (by grind) (by simp only [D, det]; grind) (by grind) u v
  have p1 := Int.mul_nonneg (Int.mul_nonneg t (show 0 ≤ b.2 - q.2 by omega)) ha
  have p2 := Int.mul_nonneg (Int.mul_nonneg t (show 0 ≤ q.2 - a.2 by omega)) hb
  have p3 := Int.mul_nonneg (Int.mul_nonneg (Int.le_of_lt s) (show 0 ≤ q.2 - d.2 by omega)) hc
  have p4 := Int.mul_nonneg (Int.mul_nonneg (Int.le_of_lt s) (show 0 ≤ c.2 - q.2 by omega)) hd
  have w1 := Int.mul_nonneg t (show 0 ≤ b.2 - a.2 by omega)
  have w2 := Int.mul_pos s (show 0 < c.2 - d.2 by omega)
  refine pos_of (b := D c d q * (b.2 - a.2) + D a b q * (c.2 - d.2)) ?_ (by omega)
  rw [Int.mul_comm]
  omega
theorem chord' {a b c d q : Pt} (h1 : a.2 ≤ q.2) (h2 : q.2 < b.2) (h3 : d.2 ≤ q.2) (h4 : q.2 < c.2) (s : D a b q ≤ 0) (t : D c d q < 0) (hc : 0 ≤ D a b c) (hd : 0 ≤ D a b d) : False := by
  have e : (q.2 - d.2) * D a b c + (c.2 - q.2) * D a b d = (c.2 - d.2) * D a b q + (b.2 - a.2) * D c d q := by simp only [D, det]; grind
  have p1 := Int.mul_nonneg (show 0 ≤ q.2 - d.2 by omega) hc
  have p2 := Int.mul_nonneg (show 0 ≤ c.2 - q.2 by omega) hd
  have p3 := Int.mul_nonpos_of_nonneg_of_nonpos (show 0 ≤ c.2 - d.2 by omega) s
  have p4 := Int.mul_neg_of_pos_of_neg (show 0 < b.2 - a.2 by omega) t
  omega
/-- Two sides cannot both go up. -/
theorem two_up {a b c d : Pt} {h : Int} (h1 : a.2 ≤ h) (h2 : h < b.2) (h3 : c.2 ≤ h) (h4 : h < d.2) (k1 : 0 < D a b c) (k2 : 0 ≤ D a b d) (k3 : 0 < D c d a) (k4 : 0 ≤ D c d b) : False := by
  have e : ((d.2 - h) * D a b c + (h - c.2) * D a b d) + ((b.2 - h) * D c d a + (h - a.2) * D c d b) = 0 := by simp only [D, det]; grind
  have p1 := Int.mul_pos (show 0 < d.2 - h by omega) k1
  have p2 := Int.mul_nonneg (show 0 ≤ h - c.2 by omega) k2
  have p3 := Int.mul_pos (show 0 < b.2 - h by omega) k3
  have p4 := Int.mul_nonneg (show 0 ≤ h - a.2 by omega) k4
  omega
theorem two_down {a b c d : Pt} {h : Int} (h1 : b.2 ≤ h) (h2 : h < a.2) (h3 : d.2 ≤ h) (h4 : h < c.2) (k1 : 0 ≤ D a b c) (k2 : 0 < D a b d) (k3 : 0 ≤ D c d a) (k4 : 0 < D c d b) : False := by
  have e : ((h - d.2) * D a b c + (c.2 - h) * D a b d) + ((h - b.2) * D c d a + (a.2 - h) * D c d b) = 0 := by simp only [D, det]; grind
  have p1 := Int.mul_nonneg (show 0 ≤ h - d.2 by omega) k1
  have p2 := Int.mul_pos (show 0 < c.2 - h by omega) k2
  have p3 := Int.mul_nonneg (show 0 ≤ h - b.2 by omega) k3
  have p4 := Int.mul_pos (show 0 < a.2 - h by omega) k4
  omega
/-- On the line of a side that goes up past its height: on the side. -/
theorem on_up {u v q : Pt} (h1 : u.2 ≤ q.2) (h2 : q.2 < v.2) (h : D u v q = 0) : onP u v q := by
  refine Mix.on ⟨v.2 - q.2, q.2 - u.2, by omega, by omega, by omega, ?_, by grind⟩
  simp only [D, det] at h
  grind

theorem max_at (f : Nat → Int) : ∀ n, 0 < n → ∃ m, m < n ∧ ∀ i, i < n → f i ≤ f m
  | 0, h => by omega
  | 1, _ => ⟨0, by omega, fun i hi => by rw [show i = 0 by omega]; exact Int.le_refl _⟩
  | n + 2, _ => by
    obtain ⟨m, h1, h2⟩ := max_at f (n + 1) (by omega)
    rcases Int.le_total (f (n + 1)) (f m) with h | h
    · refine ⟨m, by omega, fun i hi => ?_⟩
      by_cases e : i = n + 1
      · rw [e]; exact h
      · exact h2 i (by omega)
    · refine ⟨n + 1, by omega, fun i hi => ?_⟩
      by_cases e : i = n + 1
      · rw [e]; exact Int.le_refl _
      · have := h2 i (by omega)
        omega
theorem passB_eq (u v q : Pt) : passB u v q = ((decide (u.2 ≤ q.2) && decide (q.2 < v.2) && decide (0 < D u v q)) ^^ (decide (v.2 ≤ q.2) && decide (q.2 < u.2) && decide (D u v q < 0))) := by
  have hs := D_swap u v q
  unfold passB lowP highP
  by_cases h : v.2 < u.2
  · rw [if_pos h, if_pos h]
    have h1 : (decide (u.2 ≤ q.2) && decide (q.2 < v.2)) = false := by
      rw [Bool.eq_false_iff]
      intro hh
      simp at hh
      omega
    have h2 : decide (0 < sgn (D v u q)) = decide (D u v q < 0) := by
      apply decide_eq_decide.2
      rw [sgn_pos]
      omega
    rw [h1, h2]
    simp
  · rw [if_neg h, if_neg h]
    have h1 : (decide (v.2 ≤ q.2) && decide (q.2 < u.2)) = false := by
      rw [Bool.eq_false_iff]
      intro hh
      simp at hh
      omega
    have h2 : decide (0 < sgn (D u v q)) = decide (0 < D u v q) := by
      apply decide_eq_decide.2
      rw [sgn_pos]
    rw [h1, h2]
    simp
theorem oddK_xor (R : Pts) (q : Pt) : ∀ k, oddK R q k = xorTo (edgePass R q) k
  | 0 => rfl
  | k + 1 => by
    have ih := oddK_xor R q k
    simp only [oddK, xorTo, ih]
    cases edgePass R q k <;> cases xorTo (edgePass R q) k <;> rfl
theorem anyOn_iff (R : Pts) (q : Pt) : ∀ k, anyOn R q k = true ↔ ∃ i, i < k ∧ edgeOn R q i = true
  | 0 => by simp [anyOn]
  | k + 1 => by
    have ih := anyOn_iff R q k
    simp only [anyOn, Bool.or_eq_true, ih]
    constructor
    · rintro (⟨i, h1, h2⟩ | h)
      · exact ⟨i, by omega, h2⟩
      · exact ⟨k, by omega, h⟩
    · rintro ⟨i, h1, h2⟩
      by_cases e : i = k
      · subst e; exact .inr h2
      · exact .inl ⟨i, by omega, h2⟩
theorem within_iff (R : Pts) (q : Pt) : 0 ≤ withinN R q ↔ anyOn R q R.length = true ∨ oddK R q R.length = true := by
  unfold withinN
  cases anyOn R q R.length <;> cases oddK R q R.length <;> simp

theorem RingOK.has {l R : Pts} (h : RingOK l R) {i : Nat} (hi : i < R.length) : R[i]? = some (ptAt R i) := by
  have _ := h.len
  rw [ptAt_eq hi]; exact List.getElem?_eq_getElem hi
theorem RingOK.mem {l R : Pts} (h : RingOK l R) {i : Nat} (hi : i < R.length) : ptAt R i ∈ R := List.mem_of_getElem? (h.has hi)
theorem RingOK.nx {l R : Pts} (h : RingOK l R) (i : Nat) : (i + 1) % R.length < R.length := Nat.mod_lt _ (by have := h.len; omega)
theorem RingOK.to {l R : Pts} (h : RingOK l R) {i : Nat} (hi : i < R.length) : Towards D K (· ∈ l) (ptAt R i) (ptAt R ((i + 1) % R.length)) := h.tow i _ _ (h.has hi) (h.has (h.nx i))
theorem RingOK.side {l R : Pts} (h : RingOK l R) {i m : Nat} (hi : i < R.length) (hm : m < R.length) : 0 ≤ D (ptAt R i) (ptAt R ((i + 1) % R.length)) (ptAt R m) := (h.to hi).left _ (h.sub _ (h.mem hm))
theorem RingOK.kne {l R : Pts} (hc : ∀ x ∈ l, CdP x) (h : RingOK l R) {i j : Nat} (hi : i < R.length) (hj : j < R.length) (hij : i ≠ j) : K (ptAt R i) ≠ K (ptAt R j) := fun e => by
  have e' := K_inj (hc _ (h.sub _ (h.mem hi))) (hc _ (h.sub _ (h.mem hj))) e
  exact hij (h.nodup i j _ (h.has hi) (by rw [e']; exact h.has hj))
/-- No three corners lie in a line. -/
theorem RingOK.bent {l R : Pts} (hc : ∀ x ∈ l, CdP x) (h : RingOK l R) {i j k : Nat} (hi : i < R.length) (hj : j < R.length) (hk : k < R.length) (hij : i ≠ j) (hik : i ≠ k) (hjk : j ≠ k) : D (ptAt R i) (ptAt R j) (ptAt R k) ≠ 0 := fun e => by
  have k1 := h.kne hc hi hj hij
  have k2 := h.kne hc hi hk hik
  have k3 := h.kne hc hj hk hjk
  have si := h.sub _ (h.mem hi)
  have sj := h.sub _ (h.mem hj)
  have sk := h.sub _ (h.mem hk)
  have ti := h.to hi
  have tj := h.to hj
  have tk := h.to hk
  generalize ptAt R i = a at *
  generalize ptAt R j = b at *
  generalize ptAt R k = c at *
  have r1 := D_rot a b c
  have r2 := D_rot b c a
  have s1 := D_swap a b c
  have s2 := D_swap b c a
  have s3 := D_swap c a b
  by_cases h1 : K a < K b
  · by_cases h2 : K b < K c
    · exact no_between plDK affDK tj si sk h1 h2 (by omega)
    · by_cases h3 : K a < K c
      · exact no_between plDK affDK tk si sj h3 (by omega) (by omega)
      · exact no_between plDK affDK ti sk sj (by omega) h1 (by omega)
  · by_cases h2 : K a < K c
    · exact no_between plDK affDK ti sj sk (by omega) h2 (by omega)
    · by_cases h3 : K b < K c
      · exact no_between plDK affDK tk sj si h3 (by omega) (by omega)
      · exact no_between plDK affDK tj sk si (by omega) (by omega) (by omega)
theorem RingOK.strict {l R : Pts} (hc : ∀ x ∈ l, CdP x) (h : RingOK l R) {i m : Nat} (hi : i < R.length) (hm : m < R.length) (h1 : m ≠ i) (h2 : m ≠ (i + 1) % R.length) : 0 < D (ptAt R i) (ptAt R ((i + 1) % R.length)) (ptAt R m) := by
  have a1 := h.side hi hm
  have hne : i ≠ (i + 1) % R.length := fun e => (h.to hi).apart (by rw [← e])
  have a2 := h.bent hc hi (h.nx i) hm hne (fun e => h1 e.symm) (fun e => h2 e.symm)
  omega
theorem RingOK.up_one {l R : Pts} (hc : ∀ x ∈ l, CdP x) (h : RingOK l R) {q : Pt} {i j : Nat} (hi : i < R.length) (hj : j < R.length) (a1 : (ptAt R i).2 ≤ q.2) (a2 : q.2 < (ptAt R ((i + 1) % R.length)).2) (b1 : (ptAt R j).2 ≤ q.2) (b2 : q.2 < (ptAt R ((j + 1) % R.length)).2) : i = j := by
  apply Classical.byContradiction
  intro hne
  refine two_up a1 a2 b1 b2 (h.strict hc hi hj (fun e => hne e.symm) fun e => ?_) (h.side hi (h.nx j)) (h.strict hc hj hi hne fun e => ?_) (h.side hj (h.nx i))
  · rw [← e] at a2; omega
  · rw [← e] at b2; omega
theorem RingOK.nx_inj {l R : Pts} (h : RingOK l R) {i j : Nat} (hi : i < R.length) (hj : j < R.length) (e : (i + 1) % R.length = (j + 1) % R.length) : i = j := by
  have _ := h.len
  have h1 : ∀ k, k < R.length → (k + 1) % R.length = if k + 1 = R.length then 0 else k + 1 := fun k hk => by
    split
    · rename_i h; rw [h, Nat.mod_self]
    · rw [Nat.mod_eq_of_lt (by omega)]
  rw [h1 i hi, h1 j hj] at e
  split at e <;> split at e <;> omega
theorem RingOK.down_one {l R : Pts} (hc : ∀ x ∈ l, CdP x) (h : RingOK l R) {q : Pt} {i j : Nat} (hi : i < R.length) (hj : j < R.length) (a1 : (ptAt R ((i + 1) % R.length)).2 ≤ q.2) (a2 : q.2 < (ptAt R i).2) (b1 : (ptAt R ((j + 1) % R.length)).2 ≤ q.2) (b2 : q.2 < (ptAt R j).2) : i = j := by
  apply Classical.byContradiction
  intro hne
  refine two_down a1 a2 b1 b2 (h.side hi hj) (h.strict hc hi (h.nx j) (fun e => ?_) fun e => hne (h.nx_inj hj hi e).symm) (h.side hj hi) (h.strict hc hj (h.nx i) (fun e => ?_) fun e => hne (h.nx_inj hi hj e))
  · rw [e] at b1; omega
  · rw [e] at a1; omega
theorem RingOK.three {l R : Pts} (h : RingOK l R) (h3 : 3 ≤ R.length) {m : Nat} (hm : m < R.length) : ∃ p, p < R.length ∧ (p + 1) % R.length = m ∧ 0 < D (ptAt R p) (ptAt R m) (ptAt R ((m + 1) % R.length)) := by
  have hp : (m + (R.length - 1)) % R.length < R.length := Nat.mod_lt _ (by omega)
  have e : ((m + (R.length - 1)) % R.length + 1) % R.length = m := by
    rw [Nat.mod_add_mod, show m + (R.length - 1) + 1 = m + R.length by omega, Nat.add_mod_right, Nat.mod_eq_of_lt hm]
  refine ⟨_, hp, e, ?_⟩
  have := h.turns h3 _ _ _ _ (h.has hp) (h.has (h.nx _)) (h.has (Nat.mod_lt ((m + (R.length - 1)) % R.length + 2) (by omega)))
  rw [e, show ((m + (R.length - 1)) % R.length + 2) % R.length = (((m + (R.length - 1)) % R.length + 1) % R.length + 1) % R.length by simp only [Nat.mod_add_mod, Nat.add_assoc], e] at this
  exact this
/-- What lies left of all sides does not lie beyond the farthest corner. -/
theorem RingOK.within_far {l R : Pts} (h : RingOK l R) (h3 : 3 ≤ R.length) {q : Pt} (hq : ∀ i, i < R.length → 0 ≤ D (ptAt R i) (ptAt R ((i + 1) % R.length)) q) {F : Pt → Int} (hF : Pl D F) {m : Nat} (hm : m < R.length) (hmax : ∀ i, i < R.length → F (ptAt R i) ≤ F (ptAt R m)) : F q ≤ F (ptAt R m) := by
  obtain ⟨p, hp, e, ht⟩ := h.three h3 hm
  have q1 := hq p hp
  have q2 := hq m hm
  have f1 := hmax p hp
  have f2 := hmax _ (h.nx m)
  rw [e] at q1
  apply Int.not_lt.1
  intro hlt
  generalize ptAt R p = a at *
  generalize ptAt R m = b at *
  generalize ptAt R ((m + 1) % R.length) = c at *
  have id := hF.pl b c a q
  have r := D_rot a b c
  have s := D_swap a b q
  have p1 := Int.mul_nonneg q1 (show 0 ≤ F b - F c by omega)
  have p2 := Int.mul_nonneg q2 (show 0 ≤ F b - F a by omega)
  have p3 := Int.mul_pos ht (show 0 < F q - F b by omega)
  have e1 : D b a q * (F c - F b) = D a b q * (F b - F c) := by rw [s]; grind
  have e2 : D b c q * (F a - F b) - D b c a * (F q - F b) = -(D b c q * (F b - F a)) - D a b c * (F q - F b) := by rw [r]; grind
  omega
theorem RingOK.within_in {l R : Pts} (hc : ∀ x ∈ l, CdP x) (h : RingOK l R) (h3 : 3 ≤ R.length) {q : Pt} (hcq : CdP q) (hq : ∀ i, i < R.length → 0 ≤ D (ptAt R i) (ptAt R ((i + 1) % R.length)) q) : anyOn R q R.length = true ∨ oddK R q R.length = true := by
  by_cases hon : anyOn R q R.length = true
  · exact .inl hon
  right
  have off : ∀ i, i < R.length → ¬onP (ptAt R i) (ptAt R ((i + 1) % R.length)) q := fun i hi ho => hon ((anyOn_iff R q _).2 ⟨i, hi, by unfold edgeOn onB; exact decide_eq_true ho⟩)
  -- some corner is not above q
  obtain ⟨a, ha, hay⟩ : ∃ a, a < R.length ∧ (ptAt R a).2 ≤ q.2 := by
    obtain ⟨m, hm, hmax⟩ := max_at (fun i => -(ptAt R i).2) R.length (by omega)
    have := h.within_far h3 hq (F := fun p => -p.2) ⟨plDK.rot, plDK.swp, fun s t p x => by simp only [D, det]; grind⟩ hm hmax
    exact ⟨m, hm, by omega⟩
  -- some corner is above q
  obtain ⟨b, hb, hby⟩ : ∃ b, b < R.length ∧ q.2 < (ptAt R b).2 := by
    apply Classical.byContradiction
    intro hn
    have low : ∀ i, i < R.length → (ptAt R i).2 ≤ q.2 := fun i hi => Int.not_lt.1 fun hlt => hn ⟨i, hi, hlt⟩
    obtain ⟨m, hm, hmax⟩ := max_at (fun i => K ((ptAt R i).2, (ptAt R i).1)) R.length (by omega)
    have far := h.within_far h3 hq (F := fun p => K (p.2, p.1)) ⟨plDK.rot, plDK.swp, fun s t p x => by simp only [D, det, K]; grind⟩ hm hmax
    have cm := hc _ (h.sub _ (h.mem hm))
    rw [K_le (p := (q.2, q.1)) (q := ((ptAt R m).2, (ptAt R m).1)) ⟨hcq.2, hcq.1⟩ ⟨cm.2, cm.1⟩] at far
    simp only at far
    have lm := low m hm
    have lb := low _ (h.nx m)
    have q2 := hq m hm
    have ofm := off m hm
    have q3 := hq _ (h.nx m)
    have lc := low _ (h.nx ((m + 1) % R.length))
    have tn := h.turns h3 m _ _ _ (h.has hm) (h.has (h.nx m)) (h.has (Nat.mod_lt (m + 2) (by omega)))
    rw [show (m + 2) % R.length = ((m + 1) % R.length + 1) % R.length by rw [Nat.mod_add_mod]] at tn
    generalize ptAt R (((m + 1) % R.length + 1) % R.length) = c at *
    generalize ptAt R ((m + 1) % R.length) = b at *
    generalize ptAt R m = a at *
    have hy : q.2 = a.2 := by omega
    have hx : q.1 ≤ a.1 := by omega
    by_cases hxe : q.1 = a.1
    · exact ofm (Mix.on ⟨1, 0, by omega, by omega, by omega, by omega, by omega⟩)
    · simp only [D, det] at q2 q3 tn
      rw [hy] at q2 q3 lb lc
      have hb2 : b.2 = a.2 := by
        apply Classical.byContradiction
        intro hne
        have := Int.mul_pos (show 0 < a.2 - b.2 by omega) (show 0 < a.1 - q.1 by omega)
        have e : (b.1 - a.1) * (a.2 - a.2) - (b.2 - a.2) * (q.1 - a.1) = -((a.2 - b.2) * (a.1 - q.1)) := by grind
        omega
      rw [hb2] at q3 tn
      have e1 : (b.1 - a.1) * (c.2 - a.2) - (a.2 - a.2) * (c.1 - a.1) = (a.1 - b.1) * (a.2 - c.2) := by grind
      have e2 : (c.1 - b.1) * (a.2 - a.2) - (c.2 - a.2) * (q.1 - b.1) = (q.1 - b.1) * (a.2 - c.2) := by grind
      rw [e1] at tn
      rw [e2] at q3
      have hcy : 0 < a.2 - c.2 := by
        apply Classical.byContradiction
        intro hn
        have : a.2 - c.2 = 0 := by omega
        rw [this] at tn
        omega
      have hbx : 0 ≤ q.1 - b.1 := pos_of q3 hcy
      refine ofm ⟨.inr ⟨by omega, hx⟩, .inl ⟨by omega, by omega⟩, ?_⟩
      simp only [D, det]
      rw [hy, hb2]
      grind
  obtain ⟨m, hm, s1, s2⟩ := cyc_up (s := fun i => decide (q.2 < (ptAt R i).2)) ha hb (by simpa using hay) (by simpa using hby)
  have s1' : (ptAt R m).2 ≤ q.2 := by simpa using s1
  have s2' : q.2 < (ptAt R ((m + 1) % R.length)).2 := by simpa using s2
  have pass : ∀ i, i < R.length → edgePass R q i = (decide ((ptAt R i).2 ≤ q.2) && decide (q.2 < (ptAt R ((i + 1) % R.length)).2)) := fun i hi => by
    unfold edgePass
    rw [passB_eq]
    have q1 := hq i hi
    rw [decide_eq_false (show ¬D (ptAt R i) (ptAt R ((i + 1) % R.length)) q < 0 by omega)]
    by_cases hup : (ptAt R i).2 ≤ q.2 ∧ q.2 < (ptAt R ((i + 1) % R.length)).2
    · have : 0 < D (ptAt R i) (ptAt R ((i + 1) % R.length)) q := by
        apply Classical.byContradiction
        intro hn
        exact off i hi (on_up hup.1 hup.2 (by omega))
      rw [decide_eq_true this]
      simp
    · have : (decide ((ptAt R i).2 ≤ q.2) && decide (q.2 < (ptAt R ((i + 1) % R.length)).2)) = false := by
        rw [Bool.eq_false_iff]
        intro hh
        exact hup (by simpa using hh)
      rw [this]
      simp
  rw [oddK_xor, xorTo_one hm fun i hi ht => ?_]
  · rw [pass m hm]
    simp [s1', s2']
  · rw [pass i hi] at ht
    simp at ht
    exact h.up_one hc hi hm ht.1 ht.2 s1' s2'
theorem RingOK.within_out {l R : Pts} (hc : ∀ x ∈ l, CdP x) (h : RingOK l R) {q : Pt} {k : Nat} (hk : k < R.length) (hq : D (ptAt R k) (ptAt R ((k + 1) % R.length)) q < 0) : ¬(anyOn R q R.length = true ∨ oddK R q R.length = true) := by
  rintro (ho | ho)
  · obtain ⟨i, hi, e⟩ := (anyOn_iff R q _).1 ho
    unfold edgeOn onB at e
    obtain ⟨x, y, h1, h2, h3, h4⟩ := (of_decide_eq_true e : onP _ _ _).mix.lin
    have e4 := h4 (ptAt R k) (ptAt R ((k + 1) % R.length))
    have p1 := Int.mul_nonneg h1 (h.side hk hi)
    have p2 := Int.mul_nonneg h2 (h.side hk (h.nx i))
    have p3 := Int.mul_neg_of_pos_of_neg h3 hq
    omega
  · rw [oddK_xor, show edgePass R q = fun i => (decide ((ptAt R i).2 ≤ q.2) && decide (q.2 < (ptAt R ((i + 1) % R.length)).2) && decide (0 < D (ptAt R i) (ptAt R ((i + 1) % R.length)) q)) ^^ (decide ((ptAt R ((i + 1) % R.length)).2 ≤ q.2) && decide (q.2 < (ptAt R i).2) && decide (D (ptAt R i) (ptAt R ((i + 1) % R.length)) q < 0)) from by funext i; exact passB_eq _ _ _, xorTo_xor] at ho
    by_cases hex : ∃ a b, a < R.length ∧ b < R.length ∧ (ptAt R a).2 ≤ q.2 ∧ q.2 < (ptAt R b).2
    · obtain ⟨a, b, ha, hb, hay, hby⟩ := hex
      obtain ⟨m, hm, s1, s2⟩ := cyc_up (s := fun i => decide (q.2 < (ptAt R i).2)) ha hb (by simpa using hay) (by simpa using hby)
      obtain ⟨d, hd, t1, t2⟩ := cyc_down (s := fun i => decide (q.2 < (ptAt R i).2)) ha hb (by simpa using hay) (by simpa using hby)
      have s1' : (ptAt R m).2 ≤ q.2 := by simpa using s1
      have s2' : q.2 < (ptAt R ((m + 1) % R.length)).2 := by simpa using s2
      have t1' : q.2 < (ptAt R d).2 := by simpa using t1
      have t2' : (ptAt R ((d + 1) % R.length)).2 ≤ q.2 := by simpa using t2
      rw [xorTo_one hm fun i hi ht => by
          simp only [Bool.and_eq_true, decide_eq_true_eq] at ht
          exact h.up_one hc hi hm ht.1.1 ht.1.2 s1' s2',
        xorTo_one hd fun i hi ht => by
          simp only [Bool.and_eq_true, decide_eq_true_eq] at ht
          exact h.down_one hc hi hd ht.1.1 ht.1.2 t2' t1'] at ho
      simp only [decide_eq_true s1', decide_eq_true s2', decide_eq_true t1', decide_eq_true t2', Bool.true_and] at ho
      by_cases u1 : 0 < D (ptAt R m) (ptAt R ((m + 1) % R.length)) q
      · by_cases u2 : D (ptAt R d) (ptAt R ((d + 1) % R.length)) q < 0
        · rw [decide_eq_true u1, decide_eq_true u2] at ho
          exact absurd ho (by simp)
        · have := chord s1' s2' t2' t1' u1 (by omega) (h.side hk hm) (h.side hk (h.nx m)) (h.side hk hd) (h.side hk (h.nx d))
          omega
      · by_cases u2 : D (ptAt R d) (ptAt R ((d + 1) % R.length)) q < 0
        · exact chord' s1' s2' t2' t1' (by omega) u2 (h.side hm hd) (h.side hm (h.nx d))
        · rw [decide_eq_false u1, decide_eq_false u2] at ho
          exact absurd ho (by simp)
    · rw [xorTo_none fun i hi => ?_, xorTo_none fun i hi => ?_] at ho
      · exact absurd ho (by simp)
      · rw [Bool.eq_false_iff]
        intro ht
        simp only [Bool.and_eq_true, decide_eq_true_eq] at ht
        exact hex ⟨_, i, h.nx i, hi, ht.1.1, ht.1.2⟩
      · rw [Bool.eq_false_iff]
        intro ht
        simp only [Bool.and_eq_true, decide_eq_true_eq] at ht
        exact hex ⟨i, _, hi, h.nx i, ht.1.1, ht.1.2⟩
/-- Within the ring, or on it: just left of all its sides. -/
theorem RingOK.within {l R : Pts} (hc : ∀ x ∈ l, CdP x) (h : RingOK l R) (h3 : 3 ≤ R.length) {q : Pt} (hcq : CdP q) : 0 ≤ withinN R q ↔ ∀ i, i < R.length → 0 ≤ D (ptAt R i) (ptAt R ((i + 1) % R.length)) q := by
  rw [within_iff]
  constructor
  · intro hw i hi
    apply Int.not_lt.1
    intro hlt
    exact h.within_out hc hi hlt hw
  · exact fun hq => h.within_in hc h3 hcq hq
/-- All points lie within the ring or on it. -/
theorem RingOK.within_all {l R : Pts} (hc : ∀ x ∈ l, CdP x) (h : RingOK l R) {x : Pt} (hx : x ∈ l) : 0 ≤ withinN R x := by
  have left : ∀ i, i < R.length → 0 ≤ D (ptAt R i) (ptAt R ((i + 1) % R.length)) x := fun i hi => (h.to hi).left x hx
  by_cases h3 : 3 ≤ R.length
  · exact (h.within hc h3 (hc x hx)).2 left
  · have e2 : R.length = 2 := by have := h.len; omega
    rw [within_iff, anyOn_iff]
    refine .inl ⟨0, by omega, ?_⟩
    have d0 := left 0 (by omega)
    have d1 := left 1 (by omega)
    have t0 := h.to (i := 0) (by omega)
    have t1 := h.to (i := 1) (by omega)
    have f0 := h.first _ (h.has (i := 0) (by omega)) x hx
    have c0 := hc _ (h.sub _ (h.mem (i := 0) (by omega)))
    have c1 := hc _ (h.sub _ (h.mem (i := 1) (by omega)))
    have f1 := h.first _ (h.has (i := 0) (by omega)) _ (h.sub _ (h.mem (i := 1) (by omega)))
    unfold edgeOn onB
    rw [e2] at *
    simp only [Nat.zero_add, show (1 + 1) % 2 = 0 from rfl, show 1 % 2 = 1 from rfl] at *
    apply decide_eq_true
    generalize ptAt R 0 = a at *
    generalize ptAt R 1 = b at *
    have sw := D_swap a b x
    have hz : D a b x = 0 := by omega
    refine (holds_iff c0 c1 (hc x hx)).2 ⟨.inl ⟨f0, ?_⟩, hz⟩
    have := t1.backward (by have := t0.apart; omega) x hx (by omega)
    omega
end Go.Proofs.Ytgeoffpcmkofkaa
/- What Convex asks of the ring of corners. -/
namespace Go.Proofs.Ytgeoffpcmkofkaa
open Go Go.RowKit Fl

/-- The corners of a list, in their order. -/
def ringOf (l : Pts) : Pts := if l = [] then [] else ringL (hullS l)
structure RingSays (l R : Pts) : Prop where
  some : R = [] ↔ l = []
  sub : ∀ x ∈ R, x ∈ l
  len : R.length ≤ l.length
  turns : 3 ≤ R.length → ∀ i, i < R.length → 0 < D (ptAt R i) (ptAt R ((i + 1) % R.length)) (ptAt R ((i + 2) % R.length))
  left : 3 ≤ R.length → ∀ i, i < R.length → ∀ x ∈ l, 0 ≤ D (ptAt R i) (ptAt R ((i + 1) % R.length)) x
  all : ∀ x ∈ l, 0 ≤ withinN R x
  iff : 3 ≤ R.length → ∀ q, CdP q → (0 ≤ withinN R q ↔ ∀ i, i < R.length → 0 ≤ D (ptAt R i) (ptAt R ((i + 1) % R.length)) q)
theorem hullN_ring {l : Pts} (hc : ∀ x ∈ l, CdP x) : hullN l = (ringOf l).map fun p => Value.int .i64 (num l p : Int) := by
  unfold hullN ringOf
  by_cases hl : l = []
  · simp [hl]
  · rw [if_neg hl, if_neg hl]
    unfold numsOf
    exact List.map_congr_left fun x hx => by rw [(num_of (corner_sub hc (((hull_is hc).mem x).1 (ring_sub hx)))).2]
theorem ring_says {l : Pts} (hc : ∀ x ∈ l, CdP x) : RingSays l (ringOf l) := by
  unfold ringOf
  by_cases hl : l = []
  · subst hl
    rw [if_pos rfl]
    exact ⟨by simp, by simp, by simp, by simp, by simp, by simp, by simp⟩
  · rw [if_neg hl]
    have hsub : ∀ x ∈ ringL (hullS l), x ∈ l := fun x hx => corner_sub hc (((hull_is hc).mem x).1 (ring_sub hx))
    have hne := ring_ne (hull_ne hc hl)
    by_cases hall : ∀ x ∈ l, ∀ y ∈ l, x = y
    · have hs := hull_is hc
      obtain ⟨z, hz⟩ : ∃ z, hullS l = [z] := by
        cases e : hullS l with
        | nil => exact absurd e (hull_ne hc hl)
        | cons z t =>
          cases t with
          | nil => exact ⟨z, rfl⟩
          | cons y t =>
            have hin : ∀ x ∈ hullS l, x ∈ l := fun x hx => corner_sub hc ((hs.mem x).1 hx)
            have := hs.rising 0 1 z y (by rw [e]; rfl) (by rw [e]; rfl) (by omega)
            have e2 := hall z (hin z (by rw [e]; simp)) y (hin y (by rw [e]; simp))
            rw [e2] at this
            omega
      have hR : ringL (hullS l) = [z] := by rw [hz]; simp [ringL]
      rw [hR] at hsub ⊢
      have hzl := hsub z (by simp)
      refine ⟨by simp [hl], hsub, ?_, by simp, by simp, fun x hx => ?_, by simp⟩
      · have := List.length_pos_iff.2 hl
        simp
        omega
      · rw [hall x hx z hzl, within_iff, anyOn_iff]
        refine .inl ⟨0, by simp, ?_⟩
        unfold edgeOn onB
        exact decide_eq_true (Mix.on ⟨1, 0, by omega, by omega, by omega, by simp [ptAt], by simp [ptAt]⟩)
    · obtain ⟨a, b, ha, hb, hab⟩ : ∃ a b, a ∈ l ∧ b ∈ l ∧ K a < K b := by
        apply Classical.byContradiction
        intro hn
        apply hall
        intro x hx y hy
        refine K_inj (hc x hx) (hc y hy) ?_
        rcases Int.lt_trichotomy (K x) (K y) with h | h | h
        · exact absurd ⟨x, y, hx, hy, h⟩ hn
        · exact h
        · exact absurd ⟨y, x, hy, hx, h⟩ hn
      have h := ring_ok hc ha hb hab
      have h2 := h.len
      refine ⟨⟨fun e => absurd e hne, fun e => absurd e hl⟩, hsub, len_le h.list_nodup hsub, fun h3 i hi => ?_, fun h3 i hi x hx => (h.to hi).left x hx, fun x hx => h.within_all hc hx, fun h3 q hq => h.within hc h3 hq⟩
      exact h.turns h3 i _ _ _ (h.has hi) (h.has (h.nx i)) (h.has (Nat.mod_lt _ (by omega)))
end Go.Proofs.Ytgeoffpcmkofkaa
