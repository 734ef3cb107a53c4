/- Operations are matched: rows that are made, append. -/
import Derived.Test.YtgeoffpcmkofkaaKd
namespace Go.Proofs.Ytgeoffpcmkofkaa
open Go

section
variable {G : Nat} {FS : FuncId → Prop} {P : Program} {α α' β β' : Type} {Q : BR → α → α' → Prop} {Q' : BR → β → β' → Prop} {B : BR}
inductive PRs (G : Nat) (FS : FuncId → Prop) (B : BR) : List (Nat × Value) → List (Nat × Value) → Prop
  | nil : PRs G FS B [] []
  | cons {i : Nat} {v v' : Value} {l l' : List (Nat × Value)} : VR G FS B v v' → PRs G FS B l l' → PRs G FS B ((i, v) :: l) ((i, v') :: l')
theorem PRs.mono {B' : BR} (h : Sub B B') : ∀ {l l' : List (Nat × Value)}, PRs G FS B l l' → PRs G FS B' l l'
  | _, _, .nil => .nil
  | _, _, .cons k ks => .cons (k.mono h) (ks.mono h)
theorem foldl_set : ∀ {xs xs' : List Value} (k : Nat) (off : Nat) {c c' : Array Value}, VRs G FS B xs xs' → VRs G FS B c.toList c'.toList →
    VRs G FS B ((xs.zipIdx k).foldl (fun cs (x : Value × Nat) => cs.setIfInBounds (off + x.2) x.1) c).toList ((xs'.zipIdx k).foldl (fun cs (x : Value × Nat) => cs.setIfInBounds (off + x.2) x.1) c').toList
  | _, _, _, _, _, _, .nil, hc => by simpa using hc
  | _, _, k, off, c, c', .cons hv hl, hc => by
    simp only [List.zipIdx_cons, List.foldl_cons]
    refine foldl_set (k + 1) off hl ?_
    rw [Array.toList_setIfInBounds, Array.toList_setIfInBounds]
    exact hc.set _ hv
theorem foldl_size : ∀ (xs : List Value) (k : Nat) (off : Nat) (c : Array Value), ((xs.zipIdx k).foldl (fun cs (x : Value × Nat) => cs.setIfInBounds (off + x.2) x.1) c).size = c.size
  | [], _, _, _ => by simp
  | x :: xs, k, off, c => by
    simp only [List.zipIdx_cons, List.foldl_cons]
    rw [foldl_size xs (k + 1) off]
    simp
theorem fill_rel (place : Nat → Option (Nat × Nat)) : ∀ {l l' : List (Nat × Value)} {c c' : Array Value}, PRs G FS B l l' → VRs G FS B c.toList c'.toList →
    (Instr.fill place c l = none ∨ ∃ d d', Instr.fill place c l = some d ∧ Instr.fill place c' l' = some d' ∧ VRs G FS B d.toList d'.toList)
  | _, _, c, c', .nil, hc => .inr ⟨c, c', rfl, rfl, hc⟩
  | _, _, c, c', .cons (i := i) (v := v) (v' := v') hv hl, hc => by
    unfold Instr.fill
    cases hp : place i with
    | none => exact .inl rfl
    | some q =>
      obtain ⟨off, size⟩ := q
      simp only
      have hcv := hv.cells
      have e1 := hcv.size
      have e2 := hc.size
      rw [e1, e2]
      by_cases hb : (decide (v.cells.size ≠ size) || decide (off + v.cells.size > c.size)) = true
      · rw [if_pos hb]; exact .inl rfl
      · rw [if_neg hb, if_neg hb]
        refine fill_rel place hl ?_
        have f1 : v.cells.zipIdx.foldl (fun cs (x : Value × Nat) => match x with | (c, j) => cs.setIfInBounds (off + j) c) c = (v.cells.toList.zipIdx 0).foldl (fun cs (x : Value × Nat) => cs.setIfInBounds (off + x.2) x.1) c := by
          rw [← Array.foldl_toList, Array.toList_zipIdx]
        have f2 : v'.cells.zipIdx.foldl (fun cs (x : Value × Nat) => match x with | (c, j) => cs.setIfInBounds (off + j) c) c' = (v'.cells.toList.zipIdx 0).foldl (fun cs (x : Value × Nat) => cs.setIfInBounds (off + x.2) x.1) c' := by
          rw [← Array.foldl_toList, Array.toList_zipIdx]
        rw [f1, f2]
        exact foldl_set 0 off hcv hc

theorem r_zeroCells {e : TypeId} (hz : ZT G FS P e) (n : Nat) : SemR (G := G) (FS := FS) P (fun B c c' => c' = c ∧ VRs G FS B c.toList c.toList) B (if n = 0 then pure #[] else do pure (← zeroValue e).cells) (if n = 0 then pure #[] else do pure (← zeroValue e).cells) := by
  split
  · exact r_pure ⟨rfl, .nil⟩
  · exact r_bind (r_zeroValue hz) fun _ _ v v' h => by rw [h.1]; exact r_pure ⟨rfl, h.2.cells⟩
theorem range_rel {c : Array Value} (hc : VRs G FS B c.toList c.toList) (n : Nat) : VRs G FS B ((Array.range n).map (c[· % c.size]!)).toList ((Array.range n).map (c[· % c.size]!)).toList := by
  by_cases h : 0 < c.size
  · exact VRs.zeros hc n fun _ => h
  · have hs : c = #[] := by simpa using h
    subst hs
    refine VRs.of_get rfl fun i v v' h1 h2 => ?_
    rw [h1] at h2
    injection h2 with h2
    subst h2
    simp only [Array.toList_map, List.getElem?_map, Option.map_eq_some_iff] at h1
    obtain ⟨j, _, rfl⟩ := h1
    exact .bool false
theorem r_buildSlice {t : TypeId} (hz : SZ G FS P t) (len : Nat) {ps ps' : Array (Nat × Value)} (hp : PRs G FS B ps.toList ps'.toList) : SemR (G := G) (FS := FS) P (VQ G FS) B (Instr.buildSlice t len ps) (Instr.buildSlice t len ps') := by
  unfold Instr.buildSlice
  refine r_bind (r_underlying t) fun B1 h1 d d' hd => ?_
  rw [hd.1]
  cases d <;> first | exact r_stuck _ _ | skip
  rename_i elem
  simp only
  refine r_bind (r_sizeOf elem) fun B2 h2 n n' hn => ?_
  obtain rfl : n' = n := hn
  by_cases hb : len * n' > 2 ^ 24
  · rw [if_pos hb]
    exact .dead (dead_bind (dead_unsupported _))
  · rw [if_neg hb, if_neg hb]
    have key : ∀ (B3 : BR), Sub B2 B3 → ∀ (z z' : Array Value), (z' = z ∧ VRs G FS B3 z.toList z.toList) → SemR (G := G) (FS := FS) P (VQ G FS) B3
          (match Instr.fill (fun i => some (i * n', n')) ((Array.range (len * n')).map (z[· % z.size]!)) ps.toList with
            | some cells => do pure (.slice (some (← newRow elem cells)) len len)
            | _ => stuck "buildSlice: a part of the wrong size")
          (match Instr.fill (fun i => some (i * n', n')) ((Array.range (len * n')).map (z'[· % z'.size]!)) ps'.toList with
            | some cells => do pure (.slice (some (← newRow elem cells)) len len)
            | _ => stuck "buildSlice: a part of the wrong size") := by
      intro B3 h3 z z' hz'
      obtain ⟨rfl, hzz⟩ := hz'
      rcases fill_rel (fun i => some (i * n', n')) (hp.mono (h1.trans (h2.trans h3))) (range_rel hzz (len * n')) with k | ⟨c, c', k1, k2, k3⟩
      · rw [k]; exact r_stuck _ _
      · rw [k1, k2]
        exact r_bind (r_newRow elem k3) fun _ _ _ _ h => r_pure (.slice _ _ h)
    split
    · exact r_bind (r_pure (Q := fun B z z' => z' = z ∧ VRs G FS B z.toList z.toList) ⟨rfl, .nil⟩) key
    · refine r_bind (r_zeroValue (hz elem hd.2)) fun B3 h3 v v' hv => ?_
      rw [hv.1]
      exact r_bind (r_pure (Q := fun B z z' => z' = z ∧ VRs G FS B z.toList z.toList) ⟨rfl, hv.2.cells⟩) fun B4 h4 => key B4 (h3.trans h4)

theorem r_mark {m : Mark} (hm : m = .noRoom ∨ ∃ f, m = .extern f) : SemR (G := G) (FS := FS) P EqQ B (mark m) (mark m) := .mark hm (.pure rfl)
theorem r_askRoom (n : Nat) : SemR (G := G) (FS := FS) P EqQ B (askRoom n) (askRoom n) := by
  unfold askRoom
  split
  · exact r_mark (.inl rfl)
  · exact r_pure rfl
theorem r_makeSlice {t : TypeId} (hz : SZ G FS P t) {l l' c c' : Value} (hl : VR G FS B l l') (hc : VR G FS B c c') : SemR (G := G) (FS := FS) P (VQ G FS) B (Instr.makeSlice t l c) (Instr.makeSlice t l' c') := by
  unfold Instr.makeSlice
  refine r_bind (r_underlying t) fun B1 h1 d d' hd => ?_
  rw [hd.1]
  cases d <;> first | exact r_stuck _ _ | skip
  rename_i elem
  simp only
  refine r_bind (r_asInt (hl.mono h1)) fun B2 h2 n n' hn => ?_
  obtain rfl : n' = n := hn
  refine r_bind (r_asInt (hc.mono (h1.trans h2))) fun B3 h3 m m' hm => ?_
  obtain rfl : m' = m := hm
  refine r_bind (r_typeInfo elem) fun B4 h4 i i' hi => ?_
  rw [hi.1]
  have key : ∀ (B5 : BR) (z z' : Array Value) (n : Nat) (u v : Nat), (z' = z ∧ VRs G FS B5 z.toList z.toList) → SemR (G := G) (FS := FS) P (VQ G FS) B5
      (do let a ← newRow elem ((Array.range n).map (z[· % z.size]!)); pure (.slice (some a) u v))
      (do let a ← newRow elem ((Array.range n).map (z'[· % z'.size]!)); pure (.slice (some a) u v)) := by
    intro B5 z z' n u v hz'
    obtain ⟨rfl, hzz⟩ := hz'
    exact r_bind (r_newRow elem (range_rel hzz n)) fun _ _ _ _ h => r_pure (.slice _ _ h)
  split
  · split
    · exact .dead (dead_bind (dead_runtimePanic _))
    · split
      · exact .dead (dead_bind (dead_runtimePanic _))
      · exact .dead (dead_then (m_choose _) fun _ => dead_bind (dead_runtimePanic _))
  · refine r_bind (r_askRoom _) fun B5 h5 _ _ _ => ?_
    refine r_bind (r_sizeOf elem) fun B6 h6 n n' hn => ?_
    obtain rfl : n' = n := hn
    split
    · exact r_bind (r_pure (Q := fun B z z' => z' = z ∧ VRs G FS B z.toList z.toList) ⟨rfl, .nil⟩) fun B7 h7 z z' h => key B7 z z' _ _ _ h
    · refine r_bind (r_zeroValue (hz elem hd.2)) fun B3 h3 v v' hv => ?_
      rw [hv.1]
      exact r_bind (r_pure (Q := fun B z z' => z' = z ∧ VRs G FS B z.toList z.toList) ⟨rfl, hv.2.cells⟩) fun B7 h7 z z' h => key B7 z z' _ _ _ h
end
end Go.Proofs.Ytgeoffpcmkofkaa
