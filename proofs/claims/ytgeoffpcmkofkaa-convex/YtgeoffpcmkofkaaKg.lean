/- Operations are matched: arithmetic, comparisons, conversions. -/
import Derived.Test.YtgeoffpcmkofkaaKf
namespace Go.Proofs.Ytgeoffpcmkofkaa
open Go

section
variable {G : Nat} {FS : FuncId → Prop} {P : Program} {α α' β β' : Type} {Q : BR → α → α' → Prop} {Q' : BR → β → β' → Prop} {B : BR}
theorem rb_program {f : Program → Sem β} {f' : Program → Sem β'} (h : SemR (G := G) (FS := FS) P Q' B (f P) (f' P)) : SemR (G := G) (FS := FS) P Q' B (program >>= f) (program >>= f') := .program h
theorem rb_shape {r r' : Nat} (hb : B r r') {f : Option (TypeId × Nat) → Sem β} {g : Option (TypeId × Nat) → Sem β'} (h : ∀ s, SemR (G := G) (FS := FS) P Q' B (f s) (g s)) : SemR (G := G) (FS := FS) P Q' B (shape r >>= f) (shape r' >>= g) := .shape hb h
theorem rb_numberAt {r r' : Nat} (hb : B r r') {f : Option (Addr × Bool) → Sem β} {f' : Option (Addr × Bool) → Sem β'} (h0 : SemR (G := G) (FS := FS) P Q' B (f none) (f' none)) (h : ∀ a a' l, AR G B a a' → SemR (G := G) (FS := FS) P Q' B (f (some (a, l))) (f' (some (a', l)))) : SemR (G := G) (FS := FS) P Q' B (numberAt r >>= f) (numberAt r' >>= f') := by
  unfold numberAt
  simp only [bind_assoc]
  refine .shape hb fun s => ?_
  cases s with
  | some s => exact h0
  | none => exact .getNum hb fun a a' l ha => h a a' l ha
theorem rb_viewAt {r r' : Nat} (hb : B r r') {f : Option (Addr × TypeId) → Sem β} {f' : Option (Addr × TypeId) → Sem β'} (h0 : SemR (G := G) (FS := FS) P Q' B (f none) (f' none)) : SemR (G := G) (FS := FS) P Q' B (viewAt r >>= f) (viewAt r' >>= f') := by
  unfold viewAt
  simp only [bind_assoc]
  refine .shape hb fun s => ?_
  cases s with
  | some s => exact h0
  | none => exact .getNum hb fun a a' l ha => h0
theorem rb_behindNumber {n n' : Addr} (hn : AR G B n n') {f : Addr × Bool → Sem β} {f' : Addr × Bool → Sem β'} (h : ∀ a a' l, AR G B a a' → SemR (G := G) (FS := FS) P Q' B (f (a, l)) (f' (a', l))) : SemR (G := G) (FS := FS) P Q' B (behindNumber n >>= f) (behindNumber n' >>= f') := by
  unfold behindNumber
  simp only [bind_assoc]
  exact rb_numberAt hn.block (h _ _ _ hn) fun a a' l ha => h _ _ _ ha
theorem r_asNumber {a a' : Addr} (ha : AR G B a a') (l : Bool) : SemR (G := G) (FS := FS) P (VQ G FS) B (asNumber a l) (asNumber a' l) := .newNum ha fun _ _ hr => .pure (.ptr ⟨.inr ⟨rfl, rfl⟩, rfl, rfl, hr⟩)
theorem rb_byteOf {a a' : Addr} (ha : AR G B a a') {f : Nat → Sem β} {f' : Nat → Sem β'} (h : ∀ n, SemR (G := G) (FS := FS) P Q' B (f n) (f' n)) : SemR (G := G) (FS := FS) P Q' B (byteOf a >>= f) (byteOf a' >>= f') := by
  unfold byteOf
  rw [ha.spot]
  cases hs : a.spot with
  | some s => exact h _
  | none =>
    simp only [bind_assoc]
    refine .program ?_
    unfold noView
    simp only [bind_assoc, Sem.bind]
    refine rb_viewAt ha.block ?_
    simp only [Option.isSome_none, Bool.false_eq_true, if_false, pure_bind]
    refine .shape ha.block fun s => ?_
    cases s with
    | none => exact r_stuck _ _
    | some s =>
      obtain ⟨e, c⟩ := s
      simp only [Sem.bind]
      rw [ha.off]
      by_cases h0 : P.cellsOf e = 0
      · simp only [h0, if_true]
        exact h _
      · simp only [h0, if_false]
        cases hc : byteOfCell P P.depth e (a.off % P.cellsOf e) with
        | none => exact deadb (dead_stuck _)
        | some b => exact h _
theorem r_unsafeAdd {a a' : Addr} (ha : AR G B a a') {y y' : Value} (hy : VR G FS B y y') (t : TypeId) : SemR (G := G) (FS := FS) P (fun B v v' => ∃ b b', v = .pointer (some b) ∧ v' = .pointer (some b') ∧ AR G B b b') B (Builtin.unsafeAdd_ #[] t #[.pointer (some a), y]) (Builtin.unsafeAdd_ #[] t #[.pointer (some a'), y']) := by
  unfold Builtin.unsafeAdd_
  refine rb_asInt hy fun n => ?_
  by_cases h0 : n = 0
  · simp only [h0, if_true]
    refine rb_viewAt ha.block ?_
    exact r_pure ⟨_, _, rfl, rfl, ha⟩
  · simp only [h0, if_false]
    by_cases h1 : n < 0
    · simp only [h1, if_true]
      exact .dead (dead_bind (dead_unsupported _))
    · simp only [h1, if_false]
      refine .shape ha.block fun s => ?_
      cases s with
      | none => exact r_unsupported _ _
      | some s =>
        obtain ⟨e, c⟩ := s
        refine .program ?_
        simp only [Sem.bind]
        rw [ha.off]
        cases hc : cellAtBytes P P.depth e (c / P.cellsOf e) a.off n with
        | none => exact r_unsupported _ _
        | some off => exact r_pure ⟨_, _, rfl, rfl, ⟨ha.block, rfl, ha.spot, ha.low⟩⟩
theorem r_movedNumber (t : TypeId) {a a' : Addr} (ha : AR G B a a') {y y' : Value} (hy : VR G FS B y y') : SemR (G := G) (FS := FS) P (VQ G FS) B (movedNumber t (.pointer (some a)) y) (movedNumber t (.pointer (some a')) y') := by
  unfold movedNumber
  refine rb_underlying fun d hd => ?_
  simp only
  split
  · exact deadb (dead_unsupported _)
  · refine rb_behindNumber ha fun b b' l hb => ?_
    simp only
    refine r_bind (r_unsafeAdd hb hy t) fun B' hB v v' hv => ?_
    obtain ⟨c, c', rfl, rfl, hc⟩ := hv
    exact r_asNumber hc l
theorem r_addrMod (k : IntKind) {a a' : Addr} (ha : AR G B a a') (n : Int) : SemR (G := G) (FS := FS) P (VQ G FS) B (Op.addrMod k a n) (Op.addrMod k a' n) := by
  unfold Op.addrMod
  refine .shape ha.block fun s => ?_
  cases s with
  | none => exact r_unsupported _ _
  | some s =>
    obtain ⟨e, c⟩ := s
    simp only [Sem.bind]
    refine rb_typeInfo fun i hi => ?_
    split
    · exact deadb (dead_unsupported _)
    · exact rb_byteOf ha fun n => r_pure (.int _ _)

/-- Values that hold memory, other than an address itself. -/
inductive Deep : Value → Prop
  | slice (a : Addr) (l c : Nat) : Deep (.slice (some a) l c)
  | iface (t : TypeId) (v : Value) : Deep (.iface t v)
  | agg (c : Array Value) : Deep (.agg c)
  | tuple (c : Array Value) : Deep (.tuple c)
theorem VR.kinds {v v' : Value} (h : VR G FS B v v') : (v' = v ∧ VR G FS B v v ∧ ¬Deep v ∧ ∀ a, v ≠ .pointer (some a)) ∨ (∃ a a', v = .pointer (some a) ∧ v' = .pointer (some a') ∧ AR G B a a') ∨ Deep v := by
  cases h with
  | ptr ha => exact .inr (.inl ⟨_, _, rfl, rfl, ha⟩)
  | slice l c _ => exact .inr (.inr (.slice _ _ _))
  | iface t _ => exact .inr (.inr (.iface _ _))
  | agg _ => exact .inr (.inr (.agg _))
  | tuple _ => exact .inr (.inr (.tuple _))
  | bool b => exact .inl ⟨rfl, .bool b, nofun, nofun⟩
  | int k n => exact .inl ⟨rfl, .int k n, nofun, nofun⟩
  | float k n => exact .inl ⟨rfl, .float k n, nofun, nofun⟩
  | string s => exact .inl ⟨rfl, .string s, nofun, nofun⟩
  | ptrNil => exact .inl ⟨rfl, .ptrNil, nofun, nofun⟩
  | sliceNil l c => exact .inl ⟨rfl, .sliceNil l c, nofun, nofun⟩
  | func f k => exact .inl ⟨rfl, .func f k, nofun, nofun⟩
  | nilFunc => exact .inl ⟨rfl, .nilFunc, nofun, nofun⟩
  | nilIface => exact .inl ⟨rfl, .nilIface, nofun, nofun⟩
  | mapNil => exact .inl ⟨rfl, .mapNil, nofun, nofun⟩
  | chanNil => exact .inl ⟨rfl, .chanNil, nofun, nofun⟩

theorem r_shift (op : BinOp) (k : IntKind) (x : Int) (yk : IntKind) (y : Int) : SemR (G := G) (FS := FS) P (VQ G FS) B (Op.shift op k x yk y) (Op.shift op k x yk y) := by
  unfold Op.shift
  split
  · exact r_runtimePanic _ _
  · cases op <;> first | exact r_pure (.int _ _) | exact r_stuck _ _
theorem r_intArith (op : BinOp) (k : IntKind) (x y : Int) : SemR (G := G) (FS := FS) P (VQ G FS) B (Op.intArith op k x y) (Op.intArith op k x y) := by
  cases op <;> first | exact r_pure (.int _ _) | exact r_stuck _ _
theorem r_intBits (op : BinOp) (k : IntKind) (x y : Int) : SemR (G := G) (FS := FS) P (VQ G FS) B (Op.intBits op k x y) (Op.intBits op k x y) := by
  cases op <;> first | exact r_pure (.int _ _) | exact r_stuck _ _
theorem r_intCmp (op : BinOp) (x y : Int) : SemR (G := G) (FS := FS) P (VQ G FS) B (Op.intCmp op x y) (Op.intCmp op x y) := by
  cases op <;> first | exact r_pure (.bool _) | exact r_stuck _ _
theorem r_intDiv (op : BinOp) (k : IntKind) (x y : Int) : SemR (G := G) (FS := FS) P (VQ G FS) B (Op.intDiv op k x y) (Op.intDiv op k x y) := by
  unfold Op.intDiv
  split
  · exact r_runtimePanic _ _
  · cases op <;> first | exact r_pure (.int _ _) | exact r_stuck _ _
theorem r_nan (k : FloatKind) (q : Question) (r : Option Nat) : SemR (G := G) (FS := FS) P (VQ G FS) B (match r with | some r => pure (.float k r) | none => do pure (.float k (← choose q))) (match r with | some r => pure (.float k r) | none => do pure (.float k (← choose q))) := by
  cases r with
  | some r => exact r_pure (.float _ _)
  | none => exact .choose fun n => .pure (.float _ _)
theorem r_floatArith (op : BinOp) (k : FloatKind) (x y : Nat) : SemR (G := G) (FS := FS) P (VQ G FS) B (Op.floatArith op k x y) (Op.floatArith op k x y) := by
  cases op <;> first | exact r_nan k _ _ | exact r_stuckBind _ _ _
theorem r_floatCmp (op : BinOp) (k : FloatKind) (x y : Nat) : SemR (G := G) (FS := FS) P (VQ G FS) B (Op.floatCmp op k x y) (Op.floatCmp op k x y) := by
  cases op <;> first | exact r_pure (.bool _) | exact r_stuck _ _
theorem r_stringOp (op : BinOp) (x y : ByteArray) : SemR (G := G) (FS := FS) P (VQ G FS) B (Op.stringOp op x y) (Op.stringOp op x y) := by
  cases op <;> first | exact r_pure (.bool _) | exact r_stuck _ _ | skip
  unfold Op.stringOp
  simp only
  split
  · exact r_unsupported _ _
  · exact r_pure (.string _)
theorem dead_unsafeAdd (t : TypeId) (y : Value) : Dead P (Builtin.unsafeAdd_ #[] t #[.pointer none, y]) := by
  unfold Builtin.unsafeAdd_
  refine dead_then (m_asInt _) fun n => ?_
  by_cases h0 : n = 0
  · simp only [h0, if_true]; exact dead_unsupported _
  · simp only [h0, if_false]
    by_cases h1 : n < 0
    · simp only [h1, if_true]; exact dead_bind (dead_unsupported _)
    · simp only [h1, if_false]; exact dead_unsupported _
theorem dead_movedNumber (t : TypeId) (y : Value) : Dead P (movedNumber t (.pointer none) y) := by
  unfold movedNumber
  refine dead_then (m_underlying _) fun d => ?_
  simp only
  split <;> first | exact dead_bind (dead_unsupported _) | exact dead_unsafeAdd _ _ | (rw [if_pos rfl]; exact dead_bind (dead_unsupported _)) | (rw [if_neg (by decide)]; exact dead_unsafeAdd _ _)
theorem r_movedPointer (t : TypeId) {a a' : Addr} (ha : AR G B a a') {y y' : Value} (hy : VR G FS B y y') : SemR (G := G) (FS := FS) P (VQ G FS) B (movedPointer t (.pointer (some a)) y) (movedPointer t (.pointer (some a')) y') := by
  unfold movedPointer
  refine rb_numberAt ha.block ?_ fun b b' l hb => deadb (dead_unsupported _)
  refine (r_unsafeAdd ha hy t).mono fun B v v' h => ?_
  obtain ⟨c, c', rfl, rfl, hc⟩ := h
  exact .ptr hc
theorem dead_twoPlaces (hG : P.globals.size ≤ G) {a : Addr} (ha : G ≤ a.block) (b : Addr) : Dead P (Op.twoPlaces a b) := by
  have : a.block ≥ P.globals.size := Nat.le_trans hG ha
  have key : ∀ w, (Op.twoPlaces a b).run P w = .halt (.unsupported .addressObserved) w := by
    intro w
    unfold Op.twoPlaces
    simp only [program, bind, Sem.bind, Sem.run, this, decide_true, Bool.or_true, if_true, unsupported]
  exact ⟨fun w x w' h => (by rw [key] at h; cases h), fun w x w' h => (by rw [key] at h; cases h; trivial)⟩
end
end Go.Proofs.Ytgeoffpcmkofkaa
