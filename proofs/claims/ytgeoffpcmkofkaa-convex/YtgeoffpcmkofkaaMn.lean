/- hull.Of, beside goroutines that only leave. -/
import Derived.Test.YtgeoffpcmkofkaaMm
namespace Go.Proofs.Ytgeoffpcmkofkaa
open Go Go.Conc Go.RowKit Fl Go.Maps
set_option maxRecDepth 100000

theorem fs69 : FSof fsI 69 := by decide
theorem MapI.heap {w w' : World} {b n : Nat} {m : Ns} (h : MapI w b n m) (e : w'.heap[b]? = w.heap[b]?) : MapI w' b n m := by
  obtain ⟨D, ⟨es, clock, h1, h2⟩, h3⟩ := h
  exact ⟨D, ⟨es, clock, by rw [e]; exact h1, h2⟩, h3⟩
/-- What FirstNumbers leaves. -/
structure FnK (w w' : World) (v : Value) (l : Pts) : Prop where
  kept : Kept w w'
  map : ∃ b, v = .map (some b) ∧ w.heap.size ≤ b ∧ MapI w' b l.length (numN l l.length)
/-- A row of numbers that was made. -/
structure OutN (w w' : World) (v : Value) (xs : List Value) : Prop where
  kept : Kept w w'
  row : w'.ownsRow w.heap.size 3 1 v xs.length xs

theorem codeP54 : CodeP Try.prog (FSof fsI) c54 := codeP_sound (by kernel_rfl)
theorem ring_le (s : Pts) : (ringL s).length ≤ 2 * s.length := by
  unfold ringL
  split
  · omega
  · have h1 := way_le' s
    have h2 := way_le' s.reverse
    simp at h2 ⊢
    omega
theorem ring_sub {s : Pts} {x : Pt} (h : x ∈ ringL s) : x ∈ s := by
  unfold ringL at h
  split at h
  · exact h
  · rcases List.mem_append.1 h with h | h
    · have h1 := List.mem_reverse.1 (List.dropLast_subset _ h)
      exact wayOf_sub s.length s x (by rw [List.take_length]; exact h1)
    · have h1 := List.mem_reverse.1 (List.dropLast_subset _ h)
      exact List.mem_reverse.1 (wayOf_sub s.reverse.length s.reverse x (by rw [List.take_length]; exact h1))
theorem cat_len {outs : Nat → Pts} {q : Nat} (h : ∀ i, (outs i).length ≤ q) : ∀ m, (cat outs m).length ≤ m * q
  | 0 => by simp [cat]
  | m + 1 => by
    have h1 := cat_len h m
    have h2 := h m
    rw [cat_succ, List.length_append, Nat.add_mul]
    omega
theorem cat_sub {outs : Nat → Pts} {x : Pt} {m : Nat} (h : x ∈ cat outs m) : ∃ i, i < m ∧ x ∈ outs i := by
  simp only [cat, List.mem_flatMap, List.mem_range] at h
  exact h
theorem PtsIn.part {c : Array Value} {l : Pts} (h : PtsIn c 0 l) (i : Nat) : PtsIn c (0 + i * 16) ((l.drop (8 * i)).take 8) := fun j hj => by
  have hj' : 8 * i + j < l.length := by simp at hj; omega
  have h1 := h (8 * i + j) hj'
  have e : ((l.drop (8 * i)).take 8)[j] = l[8 * i + j] := by simp
  rw [e, show 0 + i * 16 + j * 2 = 0 + (8 * i + j) * 2 by omega]
  exact h1
theorem PtsIn.row {cur : Array Value} {l : Pts} (h : cur.toList.take (l.length * 2) = flatP l) : PtsIn cur 0 l := fun i hi => by
  have h1 := flatP_get l i hi
  rw [← h] at h1
  rw [List.getElem?_take_of_lt (by omega), List.getElem?_take_of_lt (by omega)] at h1
  simpa using h1

set_option maxHeartbeats 1000000 in
theorem A.hullOf {Post : Value → World → Prop} {r0 cap : Nat} {c : Array Value} {l s : Pts} {ds : Nat → Pts} {w : World} {x : Frame} {cs : List Frame} (hl : l.length ≤ 1000) (hcap : l.length ≤ cap) (hw : w.heap[r0]? = some (.cells c 23 (0, 0))) (hc : ∀ x ∈ c.toList, ∃ n, x = .int .i64 n) (hr : GN ≤ r0)
    (hp : PtsIn c 0 l) (hcd : ∀ x ∈ l, CdP x) (hds : ∀ i, IsDis ((l.drop (8 * i)).take 8) (ds i)) (hs : IsDis (cat (fun i => ringL (ds i)) ((l.length + 7) / 8)) s) (hne : ringL s ≠ [])
    (h : ∀ v w', OutN w w' v (numsOf (numN l l.length) (ringL s)) → A Try.prog Post (x.finish v) cs w') :
    A Try.prog Post (Frame.enter Try.prog 54 #[.slice (some ⟨r0, 0, none⟩) l.length cap] .normal) (x :: cs) w := by
  have hlt : r0 < w.heap.size := (Array.getElem?_eq_some_iff.1 hw).1
  rw [Conc.enter_at _ Try.func54 (c := Try.f54.body.getD .skip) rfl]
  walk_nrmf Try.f54
  refine .ctl (fun _ => stepG_seq) ?_
  refine .ctl (fun _ => stepG_region) ?_
  walk_nrm
  refine .mov (.slice none 0 0) rfl rfl (.inr rfl) rfl (by decide) ?_
  walk_nrm
  refine .ctl (fun _ => stepG_region_end) ?_
  refine .ctl (fun _ => stepG_seq) ?_
  refine .ctl (fun _ => stepG_region) ?_
  walk_nrm
  refine .mov (.slice (some ⟨r0, 0, none⟩) l.length cap) rfl rfl (.inl rfl) rfl (by decide) ?_
  walk_nrm
  refine .ent (f := 69) (xs := #[.slice (some ⟨r0, 0, none⟩) l.length cap]) rfl rfl (by decide) (fun w' => by go_simp) (fun w' => by simp [go_sem, callFunc, Try.func69, Try.f69]) ?_
  refine A.call bodP noEarly fs69 Try.func69 (c := Try.f69.body.getD .skip) rfl (Q := fun v w' => FnK w w' v l) (fun v w1 w2 k q => ⟨q.kept.same k, let ⟨b, h1, h2, h3⟩ := q.map; ⟨b, h1, h2, h3.heap (by rw [k.heap])⟩⟩) (fun w' hs' => (first_some r0 cap l w' (hp.at (by rw [hs'.heap]; exact hw)) (by rw [hs'.heap]; exact hlt) (by omega) hcd).mono ?_) fun mv1 w1 hq => ?_
  · rintro e w2 ⟨b, rfl, H⟩
    refine ⟨_, rfl, H.out.1.kept0 hs', b, rfl, ?_, H.out.2.2⟩
    have := H.out.2.1
    rwa [hs'.heap] at this
  obtain ⟨bm, rfl, hbm, hmap⟩ := hq.map
  rw [Frame.finish_at]
  walk_nrm
  refine .mov (.map (some bm)) rfl rfl (.inr rfl) rfl (by decide) ?_
  walk_nrm
  refine .ctl (fun _ => stepG_region_end) ?_
  refine .ctl (fun _ => stepG_seq) ?_
  refine .ctl (fun _ => stepG_region) ?_
  walk_nrm
  refine .mov (.slice (some ⟨r0, 0, none⟩) l.length cap) rfl rfl (.inl rfl) rfl (by decide) ?_
  walk_nrm
  refine .ent (f := 71) (xs := #[.slice (some ⟨r0, 0, none⟩) l.length cap]) rfl rfl (by decide) (fun w' => by go_simp) (fun w' => by simp [go_sem, callFunc, Try.func71, Try.f71]) ?_
  refine A.parts (c := c) (outs := fun i => ringL (ds i)) hl hcap (by rw [hq.kept.block r0 hlt]; exact hw) hc hr (fun i hi => ?_) ?_ ?_ fun v1 w2 hO => ?_
  · have e : ((l.drop (8 * i)).take 8).length = min 8 (l.length - 8 * i) := by simp
    rw [← e]
    exact aroundC (hp.part i) (by rw [e]; omega) (fun x hx => hcd x (List.mem_of_mem_drop (List.mem_of_mem_take hx))) (hds i)
  · have h1 : ∀ i, (ringL (ds i)).length ≤ 16 := fun i => by
      have h1 := ring_le (ds i)
      have h2 := (hds i).len
      simp at h2
      omega
    have := cat_len h1 ((l.length + 7) / 8)
    omega
  · intro i
    have h1 := ring_le (ds i)
    have h2 := (hds i).len
    simp at h2
    omega
  have hpc : ∀ x ∈ cat (fun i => ringL (ds i)) ((l.length + 7) / 8), CdP x := fun x hx => by
    obtain ⟨i, _, h2⟩ := cat_sub hx
    exact hcd x (List.mem_of_mem_drop (List.mem_of_mem_take (((hds i).mem x).1 (ring_sub h2))))
  have hcl : (cat (fun i => ringL (ds i)) ((l.length + 7) / 8)).length ≤ 10000 := by
    have h1 : ∀ i, (ringL (ds i)).length ≤ 16 := fun i => by
      have h1 := ring_le (ds i)
      have h2 := (hds i).len
      simp at h2
      omega
    have := cat_len h1 ((l.length + 7) / 8)
    omega
  have hpne : cat (fun i => ringL (ds i)) ((l.length + 7) / 8) ≠ [] := fun e => hne (by
    have h1 := hs.len
    rw [e] at h1
    have h2 : s = [] := List.eq_nil_of_length_eq_zero (by simpa using h1)
    rw [h2]
    rfl)
  generalize cat (fun i => ringL (ds i)) ((l.length + 7) / 8) = pts at hO hs hpc hcl hpne
  obtain ⟨g, gcap, cur, e1, hgb, hgh, hgt⟩ : ∃ g gcap cur, v1 = .slice (some ⟨g, 0, none⟩) pts.length gcap ∧ w1.heap.size ≤ g ∧ w2.heap[g]? = some (.cells cur 23 (0, 0)) ∧ cur.toList.take (pts.length * 2) = flatP pts := by
    rcases hO.row.2 with ⟨_, e2⟩ | ⟨g, cap', cur, e1, e2, e3, e4, e5, e6, e7⟩
    · exact absurd (List.eq_nil_of_length_eq_zero e2) hpne
    · exact ⟨g, cap', cur, e1, e2, e3, e7⟩
  subst e1
  have hints := hO.ints g rfl cur 23 (0, 0) hgh
  rw [Frame.finish_at]
  walk_nrm
  refine .ent (f := 70) (xs := #[.slice (some ⟨g, 0, none⟩) pts.length gcap]) rfl rfl (by decide) (fun w' => by go_simp) (fun w' => by simp [go_sem, callFunc, Try.func70, Try.f70]) ?_
  refine A.around (aroundC (PtsIn.row hgt) (by omega) hpc hs) hgh hints (by have := hq.kept.size; omega) fun v2 w3 hR q1 q2 q3 q4 => ?_
  rcases hR with ⟨_, e⟩ | ⟨g3, c3, rfl, hg3, hp3⟩
  · exact absurd e hne
  rw [Frame.finish_at]
  walk_nrm
  refine .mov (.slice (some ⟨g3, 0, none⟩) (ringL s).length c3) rfl rfl (.inr rfl) rfl (by decide) ?_
  walk_nrm
  refine .ctl (fun _ => stepG_region_end) ?_
  have hmap3 : MapI w3 bm l.length (numN l l.length) := (hmap.heap (hO.kept.block bm hmap.lt)).heap (q4 bm (Nat.lt_of_lt_of_le hmap.lt hO.kept.size))
  have hg3' : g3 < w3.heap.size := by
    have h1 := (hp3 0 (List.length_pos_iff.2 hne)).1
    simp only [World.cell?] at h1
    rcases Nat.lt_or_ge g3 w3.heap.size with h | h
    · exact h
    · rw [Array.getElem?_eq_none h] at h1
      cases h1
  have hk3 : Kept w w3 := (hq.kept.trans hO.kept).trans ⟨q2, q3, q1, q4⟩
  refine A.rest bodP noEarly (b := base 54) Try.func54 rfl (c := c54) codeP54 rfl (Q := fun a w' => ∃ v, a.tmps.getD 2 undef = v ∧ OutN w w' v (numsOf (numN l l.length) (ringL s))) (fun a w1 w2 k q => ?_) (fun w' hs' => ?_) fun a' w' todo hd hQ => ?_
  · obtain ⟨v, h1, h2⟩ := q
    exact ⟨v, h1, h2.kept.same k, owns_same h2.row k⟩
  · refine Go.wp_mono (rest54 _ g3 c3 bm l.length (numN l l.length) (ringL s) w' (hp3.heap (by rw [hs'.heap])) (by rw [hs'.heap]; exact hg3') (hmap3.heap (by rw [hs'.heap])) ?_ (fun x hx => hpc x ((hs.mem x).1 (ring_sub hx))) _ _ _ _) fun e a w2 hh => ?_
    · have h1 := ring_le s
      have h2 := hs.len
      omega
    · obtain ⟨h1, v, h2, h3⟩ := hh
      refine ⟨h1, v, h2, (hk3.same hs').trans h3.out.1, ?_⟩
      have := own_base (N := w.heap.size) (by have := (hk3.same hs').size; exact this) h3.out.2
      simpa [numsOf] using this
  · obtain ⟨v, h1, h2⟩ := hQ
    refine .ctl (fr1 := x.finish v) (cs1 := cs) (fun w3 => ?_) (h v w' h2)
    obtain ⟨tmps, dfs⟩ := a'
    simp only at hd h1
    subst hd
    refine stepG_leave rfl rfl Try.func54 ?_ ?_
    · subst h1
      simp [results, Try.f54]
    · simp [results, Try.f54]
end Go.Proofs.Ytgeoffpcmkofkaa
