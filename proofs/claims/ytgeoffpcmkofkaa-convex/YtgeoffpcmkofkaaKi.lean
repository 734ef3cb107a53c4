/- Operations are matched: equality as an operation, conversions, what is left. -/
import Derived.Test.YtgeoffpcmkofkaaKh
namespace Go.Proofs.Ytgeoffpcmkofkaa
open Go

section
variable {G : Nat} {FS : FuncId → Prop} {P : Program} {α α' β β' : Type} {Q : BR → α → α' → Prop} {Q' : BR → β → β' → Prop} {B : BR}
/-- Numbers. -/
inductive EqS (P : Program) (t : TypeId) : Prop
  | int (k : IntKind) : P.underlying t = some (.int k) → (∀ i u, P.info? t = some i → i.desc ≠ .named "sync.copyChecker" u) → EqS P t
  | float (k : FloatKind) : P.underlying t = some (.float k) → EqS P t
theorem r_eqScal (hG : P.globals.size ≤ G) {t : TypeId} (h : EqS P t) (d : Nat) {x x' y y' : Value} (hx : VR G FS B x x') (hy : VR G FS B y y') : SemR (G := G) (FS := FS) P EqQ B (Op.equalIn (d + 1) t x y) (Op.equalIn (d + 1) t x' y') := by
  cases h with
  | int k h1 h2 => exact r_eqInt hG h1 h2 _ hx hy
  | float k h1 => exact r_eqFloat h1 _ hx hy
/-- Types whose values compare alike up to the numbers of blocks. -/
inductive EqT (P : Program) (t : TypeId) : Prop
  | int (k : IntKind) : P.underlying t = some (.int k) → (∀ i u, P.info? t = some i → i.desc ≠ .named "sync.copyChecker" u) → EqT P t
  | float (k : FloatKind) : P.underlying t = some (.float k) → EqT P t
  | slice (e : TypeId) : P.underlying t = some (.slice e) → EqT P t
  | two (f g : Field) : P.underlying t = some (.struct #[f, g]) → EqS P f.type → EqS P g.type → EqT P t
theorem r_eqTwo (hG : P.globals.size ≤ G) {t : TypeId} {f g : Field} (ht : P.underlying t = some (.struct #[f, g])) (hf : EqS P f.type) (hg : EqS P g.type) (d : Nat) {x x' y y' : Value} (hx : VR G FS B x x') (hy : VR G FS B y y') : SemR (G := G) (FS := FS) P EqQ B (Op.equalIn (d + 1 + 1) t x y) (Op.equalIn (d + 1 + 1) t x' y') := by
  unfold Op.equalIn
  refine rb_underlying fun e he => ?_
  obtain rfl : e = .struct #[f, g] := by rw [ht] at he; injection he with he; exact he.symm
  cases hx <;> first | exact r_stuck _ _ | skip
  cases hy <;> first | exact r_stuck _ _ | skip
  rename_i hx _ _ hy
  simp only
  refine rb_program ?_
  split
  · exact deadb (dead_unsupported _)
  · simp only [List.forIn_toArray, List.forIn_cons, List.forIn_nil]
    refine r_bind (Q := EqQ) (r_bind (Q := EqQ) ?_ fun B1 h1 a a' ha => ?_) fun B1 h1 a a' ha => ?_
    · split
      · refine r_bind (r_part _ hx _) fun B1 h1 v v' hv => ?_
        refine r_bind (r_part _ (hy.mono h1) _) fun B2 h2 u u' hu => ?_
        refine r_bind (r_eqScal hG hf _ (hv.mono h2) hu) fun B3 _ b b' hb => ?_
        obtain rfl : b' = b := hb
        cases b' <;> exact r_pure rfl
      · exact r_pure rfl
    · obtain rfl : a' = a := ha
      cases a' with
      | done b => exact r_pure rfl
      | yield b =>
        simp only
        refine r_bind (Q := EqQ) ?_ fun B2 h2 a a' ha => ?_
        · split
          · refine r_bind (r_part _ (hx.mono h1) _) fun B2 h2 v v' hv => ?_
            refine r_bind (r_part _ ((hy.mono h1).mono h2) _) fun B3 h3 u u' hu => ?_
            refine r_bind (r_eqScal hG hg _ (hv.mono h3) hu) fun B3 _ b b' hb => ?_
            obtain rfl : b' = b := hb
            cases b' <;> exact r_pure rfl
          · exact r_pure rfl
        · obtain rfl : a' = a := ha
          cases a' <;> exact r_pure rfl
    · obtain rfl : a' = a := ha
      split <;> exact r_pure rfl
theorem r_equal (hG : P.globals.size ≤ G) {t : TypeId} (ht : EqT P t) {x x' y y' : Value} (hx : VR G FS B x x') (hy : VR G FS B y y') : SemR (G := G) (FS := FS) P EqQ B (Op.equal t x y) (Op.equal t x' y') := by
  show SemR P EqQ B (Op.equalIn (9998 + 1 + 1) t x y) (Op.equalIn (9998 + 1 + 1) t x' y')
  cases ht with
  | int k h1 h2 => exact r_eqInt hG h1 h2 _ hx hy
  | float k h1 => exact r_eqFloat h1 _ hx hy
  | slice e h1 => exact r_eqSlice h1 _ hx hy
  | two f g h1 h2 h3 => exact r_eqTwo hG h1 h2 h3 _ hx hy
theorem r_binEq (hG : P.globals.size ≤ G) {op : BinOp} (ho : op = .eql ∨ op = .neq) {t : TypeId} (ht : EqT P t) {x x' y y' : Value} (hx : VR G FS B x x') (hy : VR G FS B y y') : SemR (G := G) (FS := FS) P (VQ G FS) B (binOp op t x y) (binOp op t x' y') := by
  have key : SemR (G := G) (FS := FS) P (VQ G FS) B (do pure (.bool (← Op.equal t x y))) (do pure (.bool (← Op.equal t x' y'))) := r_bind (r_equal hG ht hx hy) fun _ _ b b' hb => by obtain rfl : b' = b := hb; exact r_pure (.bool _)
  have key' : SemR (G := G) (FS := FS) P (VQ G FS) B (do pure (.bool (!(← Op.equal t x y)))) (do pure (.bool (!(← Op.equal t x' y')))) := r_bind (r_equal hG ht hx hy) fun _ _ b b' hb => by obtain rfl : b' = b := hb; exact r_pure (.bool _)
  rcases ho with rfl | rfl
  · cases hx <;> first | exact key | (cases hy <;> first | exact key | exact r_stringOp _ _ _ | skip)
    · unfold binOp
      simp only
      split
      · exact r_stuck _ _
      · exact r_intCmp _ _ _
    · unfold binOp
      simp only
      split
      · exact r_stuck _ _
      · exact r_floatCmp _ _ _ _
    · exact r_stringOp .eql _ _
  · cases hx <;> first | exact key' | (cases hy <;> first | exact key' | exact r_stringOp _ _ _ | skip)
    · unfold binOp
      simp only
      split
      · exact r_stuck _ _
      · exact r_intCmp _ _ _
    · unfold binOp
      simp only
      split
      · exact r_stuck _ _
      · exact r_floatCmp _ _ _ _
    · exact r_stringOp .neq _ _
theorem r_guardIn {t : TypeId} (ht : EqT P t) : SemR (G := G) (FS := FS) P (fun _ b b' => b = false ∧ b' = false) B (Op.eqGuardIn Op.maxDepth t .nilIface .nilIface) (Op.eqGuardIn Op.maxDepth t .nilIface .nilIface) := by
  show SemR P _ B (Op.eqGuardIn (9999 + 1) t .nilIface .nilIface) (Op.eqGuardIn (9999 + 1) t .nilIface .nilIface)
  unfold Op.eqGuardIn
  refine rb_underlying fun d hd => ?_
  cases ht with
  | int k h1 _ => rw [h1] at hd; injection hd with hd; subst hd; exact r_pure ⟨rfl, rfl⟩
  | float k h1 => rw [h1] at hd; injection hd with hd; subst hd; exact r_pure ⟨rfl, rfl⟩
  | slice e h1 => rw [h1] at hd; injection hd with hd; subst hd; exact r_pure ⟨rfl, rfl⟩
  | two f g h1 _ _ => rw [h1] at hd; injection hd with hd; subst hd; exact r_pure ⟨rfl, rfl⟩
theorem r_noGuard {op : BinOp} (h1 : op ≠ .eql) (h2 : op ≠ .neq) (t : TypeId) (o o' : Operand) (x x' y y' : Value) : SemR (G := G) (FS := FS) P EqQ B (eqGuard op t o o' x y) (eqGuard op t o o' x' y') := by
  cases op <;> first | exact absurd rfl h1 | exact absurd rfl h2 | exact r_pure (Q := EqQ) rfl
theorem r_eqGuard {op : BinOp} (ho : op = .eql ∨ op = .neq) {t : TypeId} (ht : EqT P t) (hg : P.eqGuardType P.depth t = false) (o o' : Operand) {x x' y y' : Value} (hx : VR G FS B x x') (hy : VR G FS B y y') : SemR (G := G) (FS := FS) P EqQ B (eqGuard op t o o' x y) (eqGuard op t o o' x' y') := by
  rcases ho with rfl | rfl
  all_goals
    cases hx <;> first | exact r_pure (Q := EqQ) rfl | (cases hy <;> first | exact r_pure (Q := EqQ) rfl | skip)
    · cases o <;> cases o' <;> first | exact r_pure (Q := EqQ) rfl | skip
      all_goals
        refine r_bind (r_guardIn ht) fun _ _ b b' hb => ?_
        rw [hb.1, hb.2]
        exact r_pure (Q := EqQ) rfl
    · refine rb_program (rb_program ?_)
      rw [hg]
      exact r_pure (Q := EqQ) rfl

theorem r_unary (op : UnOp) {x x' : Value} (hx : VR G FS B x x') : SemR (G := G) (FS := FS) P (VQ G FS) B (Op.unary op x) (Op.unary op x') := by
  cases op <;> cases hx <;> first | exact r_stuck _ _ | exact r_unsupported _ _ | exact r_pure (.int _ _) | exact r_pure (.float _ _) | exact r_pure (.bool _)
theorem r_floatToInt (s : FloatKind) (b : Nat) (k : IntKind) : SemR (G := G) (FS := FS) P (VQ G FS) B (Conv.floatToInt s b k) (Conv.floatToInt s b k) := by
  have any : ∀ (q : Question), SemR (G := G) (FS := FS) P (VQ G FS) B (do pure (.int k (k.wrap (← choose q)))) (do pure (.int k (k.wrap (← choose q)))) := fun q => .choose fun n => .pure (.int _ _)
  unfold Conv.floatToInt
  simp only
  split
  · split
    · exact r_pure (.int _ _)
    · exact any _
  · exact any _
theorem r_floatToFloat (s : FloatKind) (b : Nat) (k : FloatKind) : SemR (G := G) (FS := FS) P (VQ G FS) B (Conv.floatToFloat s b k) (Conv.floatToFloat s b k) := by
  have any : ∀ (q : Question), SemR (G := G) (FS := FS) P (VQ G FS) B (do pure (.float k (← choose q))) (do pure (.float k (← choose q))) := fun q => .choose fun n => .pure (.float _ _)
  unfold Conv.floatToFloat
  split
  · exact r_pure (.float _ _)
  · split
    · exact any _
    · exact r_pure (.float _ _)
    · simp only
      split
      · exact any _
      · exact r_pure (.float _ _)
/-- Conversions between numbers. -/
theorem r_convert {s d : TypeId} {ds dd : TypeDesc} (hs : P.underlying s = some ds) (hd : P.underlying d = some dd) (ks : (∃ k, ds = .int k) ∨ ∃ k, ds = .float k) (kd : (∃ k, dd = .int k) ∨ ∃ k, dd = .float k) {x x' : Value} (hx : VR G FS B x x') : SemR (G := G) (FS := FS) P (VQ G FS) B (convert s d x) (convert s d x') := by
  unfold convert
  refine rb_underlying fun e he => ?_
  obtain rfl : e = ds := by rw [hs] at he; injection he with he; exact he.symm
  refine rb_underlying fun e' he' => ?_
  obtain rfl : e' = dd := by rw [hd] at he'; injection he' with he'; exact he'.symm
  rcases ks with ⟨k, rfl⟩ | ⟨k, rfl⟩ <;> rcases kd with ⟨l, rfl⟩ | ⟨l, rfl⟩
  all_goals cases hx <;> first | exact r_unsupported _ _ | exact r_pure (.int _ _) | exact r_pure (.float _ _) | exact r_floatToInt _ _ _ | exact r_floatToFloat _ _ _
theorem r_makeInterface (t : TypeId) {x x' : Value} (hx : VR G FS B x x') : SemR (G := G) (FS := FS) P (VQ G FS) B (Instr.makeInterface t x) (Instr.makeInterface t x') := by
  unfold Instr.makeInterface
  refine rb_underlying fun d _ => ?_
  cases d <;> first | exact r_stuck _ _ | exact r_pure (.iface _ hx)
theorem r_index (t : TypeId) {x x' i i' : Value} (hx : VR G FS B x x') (hi : VR G FS B i i') : SemR (G := G) (FS := FS) P (VQ G FS) B (Instr.index t x i) (Instr.index t x' i') := by
  unfold Instr.index
  refine rb_asIntOf hi fun n => ?_
  obtain ⟨k, n⟩ := n
  refine rb_underlying fun d _ => ?_
  cases hx <;> first | (cases d <;> exact r_stuck _ _) | skip
  · cases d <;> first | exact r_stuck _ _ | skip
    simp only
    split
    · exact r_pure (.int _ _)
    · exact r_boundsPanic _ _ _ _ _
  · cases d <;> first | exact r_stuck _ _ | skip
    rename_i hc _ _ _
    simp only
    split
    · exact rb_sizeOf fun n => r_part _ hc _
    · exact r_boundsPanic _ _ _ _ _
theorem r_len (ts : Array TypeId) (t : TypeId) {vas vas' : Array Value} (ha : VRs G FS B vas.toList vas'.toList) : SemR (G := G) (FS := FS) P (VQ G FS) B (Builtin.len_ ts t vas) (Builtin.len_ ts t vas') := by
  unfold Builtin.len_
  cases h0 : ts[0]? with
  | none => exact r_stuck _ _
  | some sT =>
  cases h1 : vas[0]? with
  | none => exact r_stuck _ _
  | some x =>
  obtain ⟨x', e1, hx⟩ := VR.get ha h1
  rw [e1]
  simp only
  refine rb_underlying fun d _ => ?_
  cases d <;> first | exact r_stuck _ _ | exact r_pure (.int _ _) | skip
  case pointer arr =>
    simp only
    refine rb_underlying fun d _ => ?_
    cases d <;> first | exact r_stuck _ _ | exact r_pure (.int _ _)
  all_goals cases hx <;> first | exact r_stuck _ _ | exact r_pure (.int _ _)
theorem r_cap (ts : Array TypeId) (t : TypeId) {vas vas' : Array Value} (ha : VRs G FS B vas.toList vas'.toList) : SemR (G := G) (FS := FS) P (VQ G FS) B (Builtin.cap_ ts t vas) (Builtin.cap_ ts t vas') := by
  unfold Builtin.cap_
  cases h0 : ts[0]? with
  | none => exact r_stuck _ _
  | some sT =>
  cases h1 : vas[0]? with
  | none => exact r_stuck _ _
  | some x =>
  obtain ⟨x', e1, hx⟩ := VR.get ha h1
  rw [e1]
  simp only
  refine rb_underlying fun d _ => ?_
  cases d <;> first | exact r_stuck _ _ | exact r_pure (.int _ _) | skip
  case pointer arr =>
    simp only
    refine rb_underlying fun d _ => ?_
    cases d <;> first | exact r_stuck _ _ | exact r_pure (.int _ _)
  all_goals cases hx <;> first | exact r_stuck _ _ | exact r_pure (.int _ _)
theorem r_clear {ts : Array TypeId} (hz : ∀ t, ts[0]? = some t → SZ G FS P t) (t : TypeId) {vas vas' : Array Value} (ha : VRs G FS B vas.toList vas'.toList) : SemR (G := G) (FS := FS) P (VQ G FS) B (Builtin.clear_ ts t vas) (Builtin.clear_ ts t vas') := by
  unfold Builtin.clear_
  cases h0 : ts[0]? with
  | none => exact r_stuck _ _
  | some sT =>
  cases h1 : vas[0]? with
  | none => exact r_stuck _ _
  | some x =>
  obtain ⟨x', e1, hx⟩ := VR.get ha h1
  rw [e1]
  simp only
  refine rb_underlying fun d hd => ?_
  cases hx <;> first | exact r_pure (.tuple .nil) | (cases d <;> exact r_stuckBind _ _ _) | skip
  rename_i l c hx
  cases l with
  | zero => exact r_pure (.tuple .nil)
  | succ l =>
    cases d <;> first | exact r_stuckBind _ _ _ | skip
    simp only
    refine rb_zeroValue (hz sT h0 _ hd) fun v hv => ?_
    refine rb_storeCells ?_ 0 hx (zeroCells_rel hv.cells _)
    exact r_pure (VR.tuple VRs.nil)
end
end Go.Proofs.Ytgeoffpcmkofkaa
