/- Operations are matched: addresses, slices, arithmetic, conversions, append. -/
import Derived.Test.YtgeoffpcmkofkaaKc
namespace Go.Proofs.Ytgeoffpcmkofkaa
open Go

section
variable {G : Nat} {FS : FuncId → Prop} {P : Program} {α α' β β' : Type} {Q : BR → α → α' → Prop} {Q' : BR → β → β' → Prop} {B : BR}

theorem VR.none_or {v v' : Value} (h : VR G FS B v v') {a : Option Addr} {l c : Nat} (e : v = .slice a l c) : ∃ a', v' = .slice a' l c ∧ (a = none ∧ a' = none ∨ ∃ x x', a = some x ∧ a' = some x' ∧ AR G B x x') := by
  subst e
  cases h with
  | sliceNil => exact ⟨none, rfl, .inl ⟨rfl, rfl⟩⟩
  | slice _ _ ha => exact ⟨_, rfl, .inr ⟨_, _, rfl, rfl, ha⟩⟩
theorem VR.mkSlice {a a' : Option Addr} (h : a = none ∧ a' = none ∨ ∃ x x', a = some x ∧ a' = some x' ∧ AR G B x x') (l c : Nat) : VR G FS B (.slice a l c) (.slice a' l c) := by
  rcases h with ⟨rfl, rfl⟩ | ⟨x, x', rfl, rfl, k⟩
  · exact .sliceNil _ _
  · exact .slice _ _ k

theorem r_stuckBind (why : String) (f : α → Sem β) (s' : Sem β') : SemR (G := G) (FS := FS) P Q' B (stuck why >>= f) s' := .dead (dead_bind (dead_stuck _))
theorem r_indexAt (t : TypeId) {x x' i i' : Value} (hx : VR G FS B x x') (hi : VR G FS B i i') : SemR (G := G) (FS := FS) P (VQ G FS) B (Instr.indexAt t x i) (Instr.indexAt t x' i') := by
  unfold Instr.indexAt
  refine r_bind (r_asIntOf hi) fun B1 h1 k k' hk => ?_
  obtain rfl : k' = k := hk
  obtain ⟨kk, ii⟩ := k'
  simp only
  refine r_bind (r_underlying t) fun B2 h2 d d' hd => ?_
  rw [hd.1]
  have hx2 := (hx.mono h1).mono h2
  cases d <;> first | exact r_stuckBind _ _ _ | skip
  case array len elem =>
    refine r_bind (r_sureAddr hx2) fun B3 h3 a a' ha => ?_
    simp only [pure_bind]
    refine r_bind (r_underlying _) fun B3 h3 d d' hd => ?_
    rw [hd.1]
    split
    · refine r_bind (r_sizeOf _) fun B4 h4 n n' hn => ?_
      have hn : n' = n := hn
      subst hn
      exact r_pure (VR.ptr ((AR.mono (h3.trans h4) ha).add _))
    · (repeat' split) <;> first | exact r_unsupported _ _ | exact r_boundsPanic _ _ _ _ _
  case slice elem =>
    cases hx2 <;> first | exact r_stuckBind _ _ _ | skip
    case sliceNil l c =>
      simp only [pure_bind]
      refine r_bind (r_underlying _) fun B3 h3 d d' hd => ?_
      exact r_boundsPanic _ _ _ _ _
    case slice l c ha =>
      simp only [pure_bind]
      refine r_bind (r_underlying _) fun B3 h3 d d' hd => ?_
      rw [hd.1]
      split
      · refine r_bind (r_sizeOf _) fun B4 h4 n n' hn => ?_
        have hn : n' = n := hn
        subst hn
        exact r_pure (VR.ptr ((AR.mono (h3.trans h4) ha).add _))
      · (repeat' split) <;> first | exact r_unsupported _ _ | exact r_boundsPanic _ _ _ _ _

theorem r_fieldAt (s : TypeId) {x x' : Value} (hx : VR G FS B x x') (f : Nat) (hs : ∀ fields fl, P.underlying s = some (.struct fields) → fields[f]? = some fl → ∃ i, P.info? fl.type = some i ∧ i.size ≠ 0) : SemR (G := G) (FS := FS) P (VQ G FS) B (Instr.fieldAt s x f) (Instr.fieldAt s x' f) := by
  unfold Instr.fieldAt
  refine r_bind (r_underlying s) fun B1 h1 d d' hd => ?_
  rw [hd.1]
  cases d <;> first | exact r_stuck _ _ | skip
  rename_i fields
  simp only
  cases hf : fields[f]? with
  | none => exact r_stuck _ _
  | some fl =>
    simp only
    refine r_bind (r_sureAddr (hx.mono h1)) fun B2 h2 a a' ha => ?_
    refine r_bind (Q := AQ G) ?_ fun _ _ _ _ h => r_pure (.ptr h)
    unfold fieldPlace
    obtain ⟨i, hi, hn⟩ := hs fields fl hd.2 hf
    refine r_bind (r_bind (r_typeInfo _) (Q' := fun _ n n' => n' = n ∧ n ≠ 0) fun B3 h3 j j' hj => ?_) fun B3 h3 n n' hn => ?_
    · rw [hj.1]
      refine r_pure ⟨rfl, ?_⟩
      have := hj.2
      rw [hi] at this
      injection this with this
      rw [← this]; exact hn
    · rw [hn.1]
      simp only [if_neg hn.2]
      exact r_pure ((ha.mono h3).add _)

theorem r_sliceBound {x x' : Value} (hx : VR G FS B x x') (y : Nat) (c : BoundsCode) : SemR (G := G) (FS := FS) P EqQ B (Instr.sliceBound x y c) (Instr.sliceBound x' y c) := by
  unfold Instr.sliceBound
  refine r_bind (r_asIntOf hx) fun B1 h1 k k' hk => ?_
  obtain rfl : k' = k := hk
  simp only
  split
  · exact r_pure rfl
  · exact r_boundsPanic _ _ _ _ _
/-- Bounds that may be left out. -/
def OV (G : Nat) (FS : FuncId → Prop) (B : BR) : Option Value → Option Value → Prop
  | none, none => True
  | some v, some v' => VR G FS B v v'
  | _, _ => False
theorem OV.mono {B B' : BR} (h : Sub B B') : ∀ {v v' : Option Value}, OV G FS B v v' → OV G FS B' v v'
  | none, none, _ => trivial
  | some _, some _, k => VR.mono h k
theorem r_sliceBounds (b : Bool) (len cap : Nat) {lo lo' hi hi' : Option Value} (hl : OV G FS B lo lo') (hh : OV G FS B hi hi') : SemR (G := G) (FS := FS) P EqQ B (Instr.sliceBounds b len cap lo hi none) (Instr.sliceBounds b len cap lo' hi' none) := by
  cases hi <;> cases hi' <;> first | exact hh.elim | skip
  · cases lo <;> cases lo' <;> first | exact hl.elim | skip
    · exact .pure rfl
    · rename_i v v'
      show SemR P EqQ B (Instr.sliceBound v len .sliceB >>= fun l => pure (l, len, cap)) (Instr.sliceBound v' len .sliceB >>= fun l => pure (l, len, cap))
      exact r_bind (r_sliceBound hl _ _) fun _ _ q q' hq => by obtain rfl : q' = q := hq; exact r_pure rfl
  · rename_i u u'
    cases lo <;> cases lo' <;> first | exact hl.elim | skip
    · show SemR P EqQ B (Instr.sliceBound u cap (if b then .sliceAcap else .sliceAlen) >>= fun h => pure (0, h, cap)) (Instr.sliceBound u' cap (if b then .sliceAcap else .sliceAlen) >>= fun h => pure (0, h, cap))
      exact r_bind (r_sliceBound hh _ _) fun _ _ q q' hq => by obtain rfl : q' = q := hq; exact r_pure rfl
    · rename_i v v'
      show SemR P EqQ B (Instr.sliceBound u cap (if b then .sliceAcap else .sliceAlen) >>= fun h => Instr.sliceBound v h .sliceB >>= fun l => pure (l, h, cap)) (Instr.sliceBound u' cap (if b then .sliceAcap else .sliceAlen) >>= fun h => Instr.sliceBound v' h .sliceB >>= fun l => pure (l, h, cap))
      refine r_bind (r_sliceBound hh _ _) fun B2 h2 n n' hn => ?_
      obtain rfl : n' = n := hn
      exact r_bind (r_sliceBound (VR.mono h2 hl) _ _) fun _ _ q q' hq => by obtain rfl : q' = q := hq; exact r_pure rfl
/-- A slice of a slice (of no string, array or pointer). -/
theorem r_sliceAt (t : TypeId) {e : TypeId} (ht : P.underlying t = some (.slice e)) {x x' : Value} (hx : VR G FS B x x') {lo lo' hi hi' : Option Value} (hl : OV G FS B lo lo') (hh : OV G FS B hi hi') : SemR (G := G) (FS := FS) P (VQ G FS) B (Instr.sliceAt t x lo hi none) (Instr.sliceAt t x' lo' hi' none) := by
  unfold Instr.sliceAt
  refine r_bind (r_underlying t) fun B1 h1 d d' hd => ?_
  rw [hd.1]
  obtain rfl : d = .slice e := by have := hd.2; rw [ht] at this; injection this with this; exact this.symm
  simp only
  unfold Instr.slice
  refine r_bind (r_underlying t) fun B2 h2 d d' hd => ?_
  rw [hd.1]
  obtain rfl : d = .slice e := by have := hd.2; rw [ht] at this; injection this with this; exact this.symm
  have hx2 := (hx.mono h1).mono h2
  have key : ∀ {a a' : Option Addr} {l c : Nat}, (a = none ∧ a' = none ∨ ∃ x x', a = some x ∧ a' = some x' ∧ AR G B2 x x') → SemR (G := G) (FS := FS) P (VQ G FS) B2
      (do let (l, h, m) ← Instr.sliceBounds true l c lo hi none; let size ← sizeOf e; pure (.slice (if m = l then a else a.map (·.add (l * size))) (h - l) (m - l)))
      (do let (l, h, m) ← Instr.sliceBounds true l c lo' hi' none; let size ← sizeOf e; pure (.slice (if m = l then a' else a'.map (·.add (l * size))) (h - l) (m - l))) := by
    intro a a' l c ha
    refine r_bind (r_sliceBounds true l c ((hl.mono h1).mono h2) ((hh.mono h1).mono h2)) fun B3 h3 q q' hq => ?_
    obtain rfl : q' = q := hq
    obtain ⟨ql, qh, qm⟩ := q'
    simp only
    refine r_bind (r_sizeOf _) fun B4 h4 n n' hn => ?_
    obtain rfl : n' = n := hn
    refine r_pure (VR.mkSlice ?_ _ _)
    rcases ha with ⟨rfl, rfl⟩ | ⟨y, y', rfl, rfl, hy⟩
    · left; simp
    · right
      have hy2 := (hy.mono h3).mono h4
      by_cases hm : qm = ql
      · simp only [hm, if_true]; exact ⟨y, y', rfl, rfl, hy2⟩
      · simp only [hm, if_false, Option.map_some]; exact ⟨_, _, rfl, rfl, hy2.add _⟩
  cases hx2 <;> first | exact r_stuck _ _ | skip
  · exact key (.inl ⟨rfl, rfl⟩)
  · rename_i h; exact key (.inr ⟨_, _, rfl, rfl, h⟩)

theorem VRs.zeros {z : Array Value} (hz : VRs G FS B z.toList z.toList) (n : Nat) (hn : 0 < n → 0 < z.size) : VRs G FS B ((Array.range n).map (z[· % z.size]!)).toList ((Array.range n).map (z[· % z.size]!)).toList := by
  refine VRs.of_get rfl fun i v v' h1 h2 => ?_
  rw [h1] at h2
  injection h2 with h2
  subst h2
  simp only [Array.toList_map, List.getElem?_map, Option.map_eq_some_iff] at h1
  obtain ⟨j, hj, rfl⟩ := h1
  have hjn : j < n := by
    have := List.mem_of_getElem? hj
    simpa using this
  have hs := hn (by omega)
  have hlt : j % z.size < z.size := Nat.mod_lt _ hs
  rw [getElem!_pos z _ hlt]
  obtain ⟨v', e1, e2⟩ := hz.get (i := j % z.size) (v := z[j % z.size]) (by simp [hlt])
  have : v' = z[j % z.size] := by
    have e3 : z.toList[j % z.size]? = some z[j % z.size] := by simp [hlt]
    rw [e3] at e1
    injection e1 with e1
    exact e1.symm
  rwa [this] at e2
end
end Go.Proofs.Ytgeoffpcmkofkaa
