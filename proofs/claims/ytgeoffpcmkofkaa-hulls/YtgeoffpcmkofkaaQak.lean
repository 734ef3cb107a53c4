/- Kg; Kh; Ki; Kj; Kk; Kl: texts laid into one. -/
import Derived.Test.YtgeoffpcmkofkaaQaj
/- Operations are matched: arithmetic, comparisons, conversions. -/
namespace Go.Proofs.Ytgeoffpcmkofkaa
open Go

section
variable {G : Nat} {FS : FuncId → Prop} {P : Program} {α α' β β' : Type} {Q : BR → α → α' → Prop} {Q' : BR → β → β' → Prop} {B : BR}
theorem rb_program {f : Program → Sem β} {f' : Program → Sem β'} (h : SemR (G := G) (FS := FS) P Q' B (f P) (f' P)) : SemR (G := G) (FS := FS) P Q' B (program >>= f) (program >>= f') := .program h
theorem rb_shape {r r' : Nat} (hb : B r r') {f : Option (TypeId × Nat) → Sem β} {g : Option (TypeId × Nat) → Sem β'} (h : ∀ s, SemR (G := G) (FS := FS) P Q' B (f s) (g s)) : SemR (G := G) (FS := FS) P Q' B (shape r >>= f) (shape r' >>= g) := .shape hb h
theorem rb_numberAt {r r' : Nat} (hb : B r r') {f : Option (Addr × Bool) → Sem β} {f' : Option (Addr × Bool) → Sem β'} (h0 : SemR (G := G) (FS := FS) P Q' B (f none) (f' none)) (h : ∀ a a' l, AR G B a a' → SemR (G := G) (FS := FS) P Q' B (f (some (a, l))) (f' (some (a', l)))) : SemR (G := G) (FS := FS) P Q' B (numberAt r >>= f) (numberAt r' >>= f') := by
  unfold numberAt
  simp only [bind_assoc]
  refine .shape hb fun s => ?_
  cases s with
  | some s => exact h0
  | none => exact .getNum hb fun a a' l ha => h a a' l ha
theorem rb_viewAt {r r' : Nat} (hb : B r r') {f : Option (Addr × TypeId) → Sem β} {f' : Option (Addr × TypeId) → Sem β'} (h0 : SemR (G := G) (FS := FS) P Q' B (f none) (f' none)) : SemR (G := G) (FS := FS) P Q' B (viewAt r >>= f) (viewAt r' >>= f') := by
  unfold viewAt
  simp only [bind_assoc]
  refine .shape hb fun s => ?_
  cases s with
  | some s => exact h0
  | none => exact .getNum hb fun a a' l ha => h0
theorem rb_behindNumber {n n' : Addr} (hn : AR G B n n') {f : Addr × Bool → Sem β} {f' : Addr × Bool → Sem β'} (h : ∀ a a' l, AR G B a a' → SemR (G := G) (FS := FS) P Q' B (f (a, l)) (f' (a', l))) : SemR (G := G) (FS := FS) P Q' B (behindNumber n >>= f) (behindNumber n' >>= f') := by
  unfold behindNumber
  simp only [bind_assoc]
  exact rb_numberAt hn.block (h _ _ _ hn) fun a a' l ha => h _ _ _ ha
theorem r_asNumber {a a' : Addr} (ha : AR G B a a') (l : Bool) : SemR (G := G) (FS := FS) P (VQ G FS) B (asNumber a l) (asNumber a' l) := .newNum ha fun _ _ hr => .pure (.ptr ⟨.inr ⟨rfl, rfl⟩, rfl, rfl, hr⟩)
theorem rb_byteOf {a a' : Addr} (ha : AR G B a a') {f : Nat → Sem β} {f' : Nat → Sem β'} (h : ∀ n, SemR (G := G) (FS := FS) P Q' B (f n) (f' n)) : SemR (G := G) (FS := FS) P Q' B (byteOf a >>= f) (byteOf a' >>= f') := by
  unfold byteOf
  rw [ha.spot]
  cases hs : a.spot with
  | some s => exact h _
  | none =>
    simp only [bind_assoc]
    refine .program ?_
    unfold noView
    simp only [bind_assoc, Sem.bind]
    refine rb_viewAt ha.block ?_
    simp only [Option.isSome_none, Bool.false_eq_true, if_false, pure_bind]
    refine .shape ha.block fun s => ?_
    cases s with
    | none => exact r_stuck _ _
    | some s =>
      obtain ⟨e, c⟩ := s
      simp only [Sem.bind]
      rw [ha.off]
      by_cases h0 : P.cellsOf e = 0
      · simp only [h0, if_true]
        exact h _
      · simp only [h0, if_false]
        cases hc : byteOfCell P P.depth e (a.off % P.cellsOf e) with
        | none => exact deadb (dead_stuck _)
        | some b => exact h _
theorem r_unsafeAdd {a a' : Addr} (ha : AR G B a a') {y y' : Value} (hy : VR G FS B y y') (t : TypeId) : SemR (G := G) (FS := FS) P (fun B v v' => ∃ b b', v = .pointer (some b) ∧ v' = .pointer (some b') ∧ AR G B b b') B (Builtin.unsafeAdd_ #[] t #[.pointer (some a), y]) (Builtin.unsafeAdd_ #[] t #[.pointer (some a'), y']) := by
  unfold Builtin.unsafeAdd_
  refine rb_asInt hy fun n => ?_
  by_cases h0 : n = 0
  · simp only [h0, if_true]
    refine rb_viewAt ha.block ?_
    exact r_pure ⟨_, _, rfl, rfl, ha⟩
  · simp only [h0, if_false]
    by_cases h1 : n < 0
    · simp only [h1, if_true]
      exact .dead (dead_bind (dead_unsupported _))
    · simp only [h1, if_false]
      refine .shape ha.block fun s => ?_
      cases s with
      | none => exact r_unsupported _ _
      | some s =>
        obtain ⟨e, c⟩ := s
        refine .program ?_
        simp only [Sem.bind]
        rw [ha.off]
        cases hc : cellAtBytes P P.depth e (c / P.cellsOf e) a.off n with
        | none => exact r_unsupported _ _
        | some off => exact r_pure ⟨_, _, rfl, rfl, ⟨ha.block, rfl, ha.spot, ha.low⟩⟩
theorem r_movedNumber (t : TypeId) {a a' : Addr} (ha : AR G B a a') {y y' : Value} (hy : VR G FS B y y') : SemR (G := G) (FS := FS) P (VQ G FS) B (movedNumber t (.pointer (some a)) y) (movedNumber t (.pointer (some a')) y') := by
  unfold movedNumber
  refine rb_underlying fun d hd => ?_
  simp only
  split
  · exact deadb (dead_unsupported _)
  · refine rb_behindNumber ha fun b b' l hb => ?_
    simp only
    refine r_bind (r_unsafeAdd hb hy t) fun B' hB v v' hv => ?_
    obtain ⟨c, c', rfl, rfl, hc⟩ := hv
    exact r_asNumber hc l
theorem r_addrMod (k : IntKind) {a a' : Addr} (ha : AR G B a a') (n : Int) : SemR (G := G) (FS := FS) P (VQ G FS) B (Op.addrMod k a n) (Op.addrMod k a' n) := by
  unfold Op.addrMod
  refine .shape ha.block fun s => ?_
  cases s with
  | none => exact r_unsupported _ _
  | some s =>
    obtain ⟨e, c⟩ := s
    simp only [Sem.bind]
    refine rb_typeInfo fun i hi => ?_
    split
    · exact deadb (dead_unsupported _)
    · exact rb_byteOf ha fun n => r_pure (.int _ _)

/-- Values that hold memory, other than an address itself. -/
inductive Deep : Value → Prop
  | slice (a : Addr) (l c : Nat) : Deep (.slice (some a) l c)
  | iface (t : TypeId) (v : Value) : Deep (.iface t v)
  | agg (c : Array Value) : Deep (.agg c)
  | tuple (c : Array Value) : Deep (.tuple c)
theorem VR.kinds {v v' : Value} (h : VR G FS B v v') : (v' = v ∧ VR G FS B v v ∧ ¬Deep v ∧ ∀ a, v ≠ .pointer (some a)) ∨ (∃ a a', v = .pointer (some a) ∧ v' = .pointer (some a') ∧ AR G B a a') ∨ Deep v := by
  cases h with
  | ptr ha => exact .inr (.inl ⟨_, _, rfl, rfl, ha⟩)
  | slice l c _ => exact .inr (.inr (.slice _ _ _))
  | iface t _ => exact .inr (.inr (.iface _ _))
  | agg _ => exact .inr (.inr (.agg _))
  | tuple _ => exact .inr (.inr (.tuple _))
  | bool b => exact .inl ⟨rfl, .bool b, nofun, nofun⟩
  | int k n => exact .inl ⟨rfl, .int k n, nofun, nofun⟩
  | float k n => exact .inl ⟨rfl, .float k n, nofun, nofun⟩
  | string s => exact .inl ⟨rfl, .string s, nofun, nofun⟩
  | ptrNil => exact .inl ⟨rfl, .ptrNil, nofun, nofun⟩
  | sliceNil l c => exact .inl ⟨rfl, .sliceNil l c, nofun, nofun⟩
  | func f k => exact .inl ⟨rfl, .func f k, nofun, nofun⟩
  | nilFunc => exact .inl ⟨rfl, .nilFunc, nofun, nofun⟩
  | nilIface => exact .inl ⟨rfl, .nilIface, nofun, nofun⟩
  | mapNil => exact .inl ⟨rfl, .mapNil, nofun, nofun⟩
  | chanNil => exact .inl ⟨rfl, .chanNil, nofun, nofun⟩

theorem r_shift (op : BinOp) (k : IntKind) (x : Int) (yk : IntKind) (y : Int) : SemR (G := G) (FS := FS) P (VQ G FS) B (Op.shift op k x yk y) (Op.shift op k x yk y) := by
  unfold Op.shift
  split
  · exact r_runtimePanic _ _
  · cases op <;> first | exact r_pure (.int _ _) | exact r_stuck _ _
theorem r_intArith (op : BinOp) (k : IntKind) (x y : Int) : SemR (G := G) (FS := FS) P (VQ G FS) B (Op.intArith op k x y) (Op.intArith op k x y) := by
  cases op <;> first | exact r_pure (.int _ _) | exact r_stuck _ _
theorem r_intBits (op : BinOp) (k : IntKind) (x y : Int) : SemR (G := G) (FS := FS) P (VQ G FS) B (Op.intBits op k x y) (Op.intBits op k x y) := by
  cases op <;> first | exact r_pure (.int _ _) | exact r_stuck _ _
theorem r_intCmp (op : BinOp) (x y : Int) : SemR (G := G) (FS := FS) P (VQ G FS) B (Op.intCmp op x y) (Op.intCmp op x y) := by
  cases op <;> first | exact r_pure (.bool _) | exact r_stuck _ _
theorem r_intDiv (op : BinOp) (k : IntKind) (x y : Int) : SemR (G := G) (FS := FS) P (VQ G FS) B (Op.intDiv op k x y) (Op.intDiv op k x y) := by
  unfold Op.intDiv
  split
  · exact r_runtimePanic _ _
  · cases op <;> first | exact r_pure (.int _ _) | exact r_stuck _ _
theorem r_nan (k : FloatKind) (q : Question) (r : Option Nat) : SemR (G := G) (FS := FS) P (VQ G FS) B (match r with | some r => pure (.float k r) | none => do pure (.float k (← choose q))) (match r with | some r => pure (.float k r) | none => do pure (.float k (← choose q))) := by
  cases r with
  | some r => exact r_pure (.float _ _)
  | none => exact .choose fun n => .pure (.float _ _)
theorem r_floatArith (op : BinOp) (k : FloatKind) (x y : Nat) : SemR (G := G) (FS := FS) P (VQ G FS) B (Op.floatArith op k x y) (Op.floatArith op k x y) := by
  cases op <;> first | exact r_nan k _ _ | exact r_stuckBind _ _ _
theorem r_floatCmp (op : BinOp) (k : FloatKind) (x y : Nat) : SemR (G := G) (FS := FS) P (VQ G FS) B (Op.floatCmp op k x y) (Op.floatCmp op k x y) := by
  cases op <;> first | exact r_pure (.bool _) | exact r_stuck _ _
theorem r_stringOp (op : BinOp) (x y : ByteArray) : SemR (G := G) (FS := FS) P (VQ G FS) B (Op.stringOp op x y) (Op.stringOp op x y) := by
  cases op <;> first | exact r_pure (.bool _) | exact r_stuck _ _ | skip
  unfold Op.stringOp
  simp only
  split
  · exact r_unsupported _ _
  · exact r_pure (.string _)
theorem dead_unsafeAdd (t : TypeId) (y : Value) : Dead P (Builtin.unsafeAdd_ #[] t #[.pointer none, y]) := by
  unfold Builtin.unsafeAdd_
  refine dead_then (m_asInt _) fun n => ?_
  by_cases h0 : n = 0
  · simp only [h0, if_true]; exact dead_unsupported _
  · simp only [h0, if_false]
    by_cases h1 : n < 0
    · simp only [h1, if_true]; exact dead_bind (dead_unsupported _)
    · simp only [h1, if_false]; exact dead_unsupported _
theorem dead_movedNumber (t : TypeId) (y : Value) : Dead P (movedNumber t (.pointer none) y) := by
  unfold movedNumber
  refine dead_then (m_underlying _) fun d => ?_
  simp only
  split <;> first | exact dead_bind (dead_unsupported _) | exact dead_unsafeAdd _ _ | (rw [if_pos rfl]; exact dead_bind (dead_unsupported _)) | (rw [if_neg (by decide)]; exact dead_unsafeAdd _ _)
theorem r_movedPointer (t : TypeId) {a a' : Addr} (ha : AR G B a a') {y y' : Value} (hy : VR G FS B y y') : SemR (G := G) (FS := FS) P (VQ G FS) B (movedPointer t (.pointer (some a)) y) (movedPointer t (.pointer (some a')) y') := by
  unfold movedPointer
  refine rb_numberAt ha.block ?_ fun b b' l hb => deadb (dead_unsupported _)
  refine (r_unsafeAdd ha hy t).mono fun B v v' h => ?_
  obtain ⟨c, c', rfl, rfl, hc⟩ := h
  exact .ptr hc
theorem dead_twoPlaces (hG : P.globals.size ≤ G) {a : Addr} (ha : G ≤ a.block) (b : Addr) : Dead P (Op.twoPlaces a b) := by
  have : a.block ≥ P.globals.size := Nat.le_trans hG ha
  have key : ∀ w, (Op.twoPlaces a b).run P w = .halt (.unsupported .addressObserved) w := by
    intro w
    unfold Op.twoPlaces
    simp only [program, bind, Sem.bind, Sem.run, this, decide_true, Bool.or_true, if_true, unsupported]
  exact ⟨fun w x w' h => (by rw [key] at h; cases h), fun w x w' h => (by rw [key] at h; cases h; trivial)⟩
end
end Go.Proofs.Ytgeoffpcmkofkaa
/- Operations are matched: binOp. -/
namespace Go.Proofs.Ytgeoffpcmkofkaa
open Go

section
variable {G : Nat} {FS : FuncId → Prop} {P : Program} {α α' β β' : Type} {Q : BR → α → α' → Prop} {Q' : BR → β → β' → Prop} {B : BR}
theorem dead_deep {op : BinOp} (h1 : op ≠ .eql) (h2 : op ≠ .neq) (t : TypeId) {x y : Value} (h : Deep x ∨ Deep y) : Dead P (binOp op t x y) := by
  unfold binOp
  split <;> first | exact dead_stuck _ | exact dead_unsupported _ | (exfalso; rcases h with h | h <;> cases h; done) | exact absurd rfl h1 | exact absurd rfl h2
theorem dead_pp (hG : P.globals.size ≤ G) {op : BinOp} (h1 : op ≠ .eql) (h2 : op ≠ .neq) (t : TypeId) {a b a' b' : Addr} (ha : AR G B a a') (hb : AR G B b b') : SemR (G := G) (FS := FS) P (VQ G FS) B (binOp op t (.pointer (some a)) (.pointer (some b))) (binOp op t (.pointer (some a')) (.pointer (some b'))) := by
  cases op <;> first | exact absurd rfl h1 | exact absurd rfl h2 | exact r_unsupported _ _ | skip
  all_goals
    refine rb_behindNumber ha fun c c' l hc => ?_
    refine rb_behindNumber hb fun d d' l' hd => ?_
    exact .dead (dead_bind (dead_twoPlaces hG hc.low _))
theorem r_pi {op : BinOp} (h1 : op ≠ .eql) (h2 : op ≠ .neq) (t : TypeId) {a a' : Addr} (ha : AR G B a a') (k : IntKind) (n : Int) : SemR (G := G) (FS := FS) P (VQ G FS) B (binOp op t (.pointer (some a)) (.int k n)) (binOp op t (.pointer (some a')) (.int k n)) := by
  cases op <;> first | exact absurd rfl h1 | exact absurd rfl h2 | exact r_unsupported _ _ | exact r_movedNumber t ha (.int _ _) | exact rb_behindNumber ha fun c c' l hc => r_addrMod _ hc _ | skip
  refine rb_underlying fun d hd => ?_
  split
  · exact r_movedPointer t ha (.int _ _)
  · exact r_movedNumber t ha (.int _ _)
theorem r_ip {op : BinOp} (h1 : op ≠ .eql) (h2 : op ≠ .neq) (t : TypeId) {a a' : Addr} (ha : AR G B a a') (k : IntKind) (n : Int) : SemR (G := G) (FS := FS) P (VQ G FS) B (binOp op t (.int k n) (.pointer (some a))) (binOp op t (.int k n) (.pointer (some a'))) := by
  cases op <;> first | exact absurd rfl h1 | exact absurd rfl h2 | exact r_unsupported _ _ | exact r_movedNumber t ha (.int _ _) | exact rb_behindNumber ha fun c c' l hc => r_addrMod _ hc _
theorem dead_px {op : BinOp} (h1 : op ≠ .eql) (h2 : op ≠ .neq) (t : TypeId) (a : Addr) {y : Value} (hi : ∀ k n, y ≠ .int k n) (hp : ∀ b, y ≠ .pointer (some b)) : Dead P (binOp op t (.pointer (some a)) y) := by
  generalize hx : Value.pointer (some a) = x
  unfold binOp
  split <;> first | exact dead_stuck _ | exact dead_unsupported _ | exact absurd rfl h1 | exact absurd rfl h2 | exact absurd rfl (hi _ _) | exact absurd rfl (hp _) | cases hx
theorem dead_xp {op : BinOp} (h1 : op ≠ .eql) (h2 : op ≠ .neq) (t : TypeId) (a : Addr) {y : Value} (hi : ∀ k n, y ≠ .int k n) (hp : ∀ b, y ≠ .pointer (some b)) : Dead P (binOp op t y (.pointer (some a))) := by
  generalize hx : Value.pointer (some a) = x
  unfold binOp
  split <;> first | exact dead_stuck _ | exact dead_unsupported _ | exact absurd rfl h1 | exact absurd rfl h2 | exact absurd rfl (hi _ _) | exact absurd rfl (hp _) | cases hx
theorem dead_movedPointer (t : TypeId) (y : Value) : Dead P (movedPointer t (.pointer none) y) := by
  unfold movedPointer
  simp only
  exact dead_unsafeAdd _ _
theorem r_flat {op : BinOp} (h1 : op ≠ .eql) (h2 : op ≠ .neq) (t : TypeId) {x y : Value} (hx : VR G FS B x x) (hy : VR G FS B y y) (px : ∀ b, x ≠ .pointer (some b)) (py : ∀ b, y ≠ .pointer (some b)) : SemR (G := G) (FS := FS) P (VQ G FS) B (binOp op t x y) (binOp op t x y) := by
  unfold binOp
  split <;> first | exact r_stuck _ _ | exact r_unsupported _ _ | exact absurd rfl h1 | exact absurd rfl h2 | exact r_shift _ _ _ _ _ | exact r_stringOp _ _ _ | exact absurd rfl (px _) | exact absurd rfl (py _) | skip
  · split
    · exact r_stuck _ _
    · split <;> first | exact r_intArith _ _ _ _ | exact r_intDiv _ _ _ _ | exact r_intBits _ _ _ _ | exact r_intCmp _ _ _
  · split
    · exact r_stuck _ _
    · split <;> first | exact r_floatArith _ _ _ _ | exact r_floatCmp _ _ _ _
  · cases hx
  · cases hx with
    | ptr _ => exact absurd rfl (px _)
    | ptrNil =>
      refine rb_underlying fun d hd => ?_
      split <;> first | exact .dead (dead_movedPointer _ _) | exact .dead (dead_movedNumber _ _) | (rw [if_pos rfl]; exact .dead (dead_movedPointer _ _)) | (rw [if_neg (by decide)]; exact .dead (dead_movedNumber _ _))
  · cases hy with
    | ptr _ => exact absurd rfl (py _)
    | ptrNil => exact .dead (dead_movedNumber _ _)
  · cases hx with
    | ptr _ => exact absurd rfl (px _)
    | ptrNil => exact .dead (dead_movedNumber _ _)
theorem r_binOp (hG : P.globals.size ≤ G) {op : BinOp} (h1 : op ≠ .eql) (h2 : op ≠ .neq) (t : TypeId) {x x' y y' : Value} (hx : VR G FS B x x') (hy : VR G FS B y y') : SemR (G := G) (FS := FS) P (VQ G FS) B (binOp op t x y) (binOp op t x' y') := by
  rcases hx.kinds with ⟨rfl, vx, _, px⟩ | ⟨a, a', rfl, rfl, ha⟩ | dx
  · rcases hy.kinds with ⟨rfl, vy, _, py⟩ | ⟨b, b', rfl, rfl, hb⟩ | dy
    · exact r_flat h1 h2 t vx vy px py
    · by_cases hi : ∀ k n, x' ≠ .int k n
      · exact .dead (dead_xp h1 h2 t b hi px)
      · simp only [ne_eq, Classical.not_forall, Classical.not_not] at hi
        obtain ⟨k, n, rfl⟩ := hi
        exact r_ip h1 h2 t hb k n
    · exact .dead (dead_deep h1 h2 t (.inr dy))
  · rcases hy.kinds with ⟨rfl, vy, _, py⟩ | ⟨b, b', rfl, rfl, hb⟩ | dy
    · by_cases hi : ∀ k n, y' ≠ .int k n
      · exact .dead (dead_px h1 h2 t a hi py)
      · simp only [ne_eq, Classical.not_forall, Classical.not_not] at hi
        obtain ⟨k, n, rfl⟩ := hi
        exact r_pi h1 h2 t ha k n
    · exact dead_pp hG h1 h2 t ha hb
    · exact .dead (dead_deep h1 h2 t (.inr dy))
  · exact .dead (dead_deep h1 h2 t (.inl dx))

/-! ### Equality -/
theorem r_eqFloat {t : TypeId} {k : FloatKind} (ht : P.underlying t = some (.float k)) (d : Nat) {x x' y y' : Value} (hx : VR G FS B x x') (hy : VR G FS B y y') : SemR (G := G) (FS := FS) P EqQ B (Op.equalIn (d + 1) t x y) (Op.equalIn (d + 1) t x' y') := by
  unfold Op.equalIn
  refine rb_underlying fun e he => ?_
  obtain rfl : e = .float k := by rw [ht] at he; injection he with he; exact he.symm
  cases hx <;> first | exact r_stuck _ _ | skip
  cases hy <;> first | exact r_stuck _ _ | skip
  simp only
  split
  · exact r_pure rfl
  · exact r_stuck _ _
theorem r_eqSlice {t e : TypeId} (ht : P.underlying t = some (.slice e)) (d : Nat) {x x' y y' : Value} (hx : VR G FS B x x') (hy : VR G FS B y y') : SemR (G := G) (FS := FS) P EqQ B (Op.equalIn (d + 1) t x y) (Op.equalIn (d + 1) t x' y') := by
  unfold Op.equalIn
  refine rb_underlying fun f he => ?_
  obtain rfl : f = .slice e := by rw [ht] at he; injection he with he; exact he.symm
  cases hx <;> first | exact r_stuck _ _ | skip
  all_goals cases hy <;> first | exact r_stuck _ _ | exact r_pure rfl
theorem r_eqInt (hG : P.globals.size ≤ G) {t : TypeId} {k : IntKind} (ht : P.underlying t = some (.int k)) (hc : ∀ i u, P.info? t = some i → i.desc ≠ .named "sync.copyChecker" u) (d : Nat) {x x' y y' : Value} (hx : VR G FS B x x') (hy : VR G FS B y y') : SemR (G := G) (FS := FS) P EqQ B (Op.equalIn (d + 1) t x y) (Op.equalIn (d + 1) t x' y') := by
  unfold Op.equalIn
  refine rb_underlying fun f he => ?_
  obtain rfl : f = .int k := by rw [ht] at he; injection he with he; exact he.symm
  cases hx <;> first | exact r_stuck _ _ | skip
  all_goals cases hy <;> first | exact r_stuck _ _ | exact r_unsupported _ _ | exact r_pure rfl | skip
  · simp only
    split
    · exact r_pure rfl
    · exact r_stuck _ _
  · rename_i n _ _ _
    cases n with
    | ofNat m => cases m with
      | zero => exact r_pure rfl
      | succ m => exact r_unsupported _ _
    | negSucc m => exact r_unsupported _ _
  · rename_i n
    cases n with
    | ofNat m => cases m with
      | zero => exact r_pure rfl
      | succ m => exact r_unsupported _ _
    | negSucc m => exact r_unsupported _ _
  · rename_i ha _ _ hb
    simp only
    refine rb_behindNumber ha fun c c' l hc' => ?_
    refine rb_behindNumber hb fun e e' l' he' => ?_
    simp only
    refine rb_program ?_
    refine .dead ?_
    have h1 : ¬c.block < P.globals.size := by have := hc'.low; omega
    rw [if_neg (by simp [h1])]
    have hi' : ∀ w i w₁, (typeInfo t).run P w = .ok i w₁ → P.info? t = some i := by
      intro w i w₁ hi
      simp only [typeInfo, program, bind, Sem.bind, Sem.run] at hi
      cases h : P.info? t with
      | none => rw [h] at hi; simp [stuck] at hi
      | some j => rw [h] at hi; simp at hi; rw [hi.1]
    refine ⟨fun w v w' hr => ?_, m_bind (m_typeInfo t) fun i => ?_⟩
    · obtain ⟨i, w₁, hi, hr⟩ := run_bind hr
      split at hr
      · rename_i u hu
        exact absurd hu (hc i u (hi' _ _ _ hi))
      · simp [unsupported] at hr
    · split
      · split
        · exact m_pure _
        · exact m_unsupported _
      · exact m_unsupported _
end
end Go.Proofs.Ytgeoffpcmkofkaa
/- Operations are matched: equality as an operation, conversions, what is left. -/
namespace Go.Proofs.Ytgeoffpcmkofkaa
open Go

section
variable {G : Nat} {FS : FuncId → Prop} {P : Program} {α α' β β' : Type} {Q : BR → α → α' → Prop} {Q' : BR → β → β' → Prop} {B : BR}
/-- Numbers. -/
inductive EqS (P : Program) (t : TypeId) : Prop
  | int (k : IntKind) : P.underlying t = some (.int k) → (∀ i u, P.info? t = some i → i.desc ≠ .named "sync.copyChecker" u) → EqS P t
  | float (k : FloatKind) : P.underlying t = some (.float k) → EqS P t
theorem r_eqScal (hG : P.globals.size ≤ G) {t : TypeId} (h : EqS P t) (d : Nat) {x x' y y' : Value} (hx : VR G FS B x x') (hy : VR G FS B y y') : SemR (G := G) (FS := FS) P EqQ B (Op.equalIn (d + 1) t x y) (Op.equalIn (d + 1) t x' y') := by
  cases h with
  | int k h1 h2 => exact r_eqInt hG h1 h2 _ hx hy
  | float k h1 => exact r_eqFloat h1 _ hx hy
/-- Types whose values compare alike up to the numbers of blocks. -/
inductive EqT (P : Program) (t : TypeId) : Prop
  | int (k : IntKind) : P.underlying t = some (.int k) → (∀ i u, P.info? t = some i → i.desc ≠ .named "sync.copyChecker" u) → EqT P t
  | float (k : FloatKind) : P.underlying t = some (.float k) → EqT P t
  | slice (e : TypeId) : P.underlying t = some (.slice e) → EqT P t
  | two (f g : Field) : P.underlying t = some (.struct #[f, g]) → EqS P f.type → EqS P g.type → EqT P t
theorem r_eqTwo (hG : P.globals.size ≤ G) {t : TypeId} {f g : Field} (ht : P.underlying t = some (.struct #[f, g])) (hf : EqS P f.type) (hg : EqS P g.type) (d : Nat) {x x' y y' : Value} (hx : VR G FS B x x') (hy : VR G FS B y y') : SemR (G := G) (FS := FS) P EqQ B (Op.equalIn (d + 1 + 1) t x y) (Op.equalIn (d + 1 + 1) t x' y') := by
  unfold Op.equalIn
  refine rb_underlying fun e he => ?_
  obtain rfl : e = .struct #[f, g] := by rw [ht] at he; injection he with he; exact he.symm
  cases hx <;> first | exact r_stuck _ _ | skip
  cases hy <;> first | exact r_stuck _ _ | skip
  rename_i hx _ _ hy
  simp only
  refine rb_program ?_
  split
  · exact deadb (dead_unsupported _)
  · simp only [List.forIn_toArray, List.forIn_cons, List.forIn_nil]
    refine r_bind (Q := EqQ) (r_bind (Q := EqQ) ?_ fun B1 h1 a a' ha => ?_) fun B1 h1 a a' ha => ?_
    · split
      · refine r_bind (r_part _ hx _) fun B1 h1 v v' hv => ?_
        refine r_bind (r_part _ (hy.mono h1) _) fun B2 h2 u u' hu => ?_
        refine r_bind (r_eqScal hG hf _ (hv.mono h2) hu) fun B3 _ b b' hb => ?_
        obtain rfl : b' = b := hb
        cases b' <;> exact r_pure rfl
      · exact r_pure rfl
    · obtain rfl : a' = a := ha
      cases a' with
      | done b => exact r_pure rfl
      | yield b =>
        simp only
        refine r_bind (Q := EqQ) ?_ fun B2 h2 a a' ha => ?_
        · split
          · refine r_bind (r_part _ (hx.mono h1) _) fun B2 h2 v v' hv => ?_
            refine r_bind (r_part _ ((hy.mono h1).mono h2) _) fun B3 h3 u u' hu => ?_
            refine r_bind (r_eqScal hG hg _ (hv.mono h3) hu) fun B3 _ b b' hb => ?_
            obtain rfl : b' = b := hb
            cases b' <;> exact r_pure rfl
          · exact r_pure rfl
        · obtain rfl : a' = a := ha
          cases a' <;> exact r_pure rfl
    · obtain rfl : a' = a := ha
      split <;> exact r_pure rfl
theorem r_equal (hG : P.globals.size ≤ G) {t : TypeId} (ht : EqT P t) {x x' y y' : Value} (hx : VR G FS B x x') (hy : VR G FS B y y') : SemR (G := G) (FS := FS) P EqQ B (Op.equal t x y) (Op.equal t x' y') := by
  show SemR P EqQ B (Op.equalIn (9998 + 1 + 1) t x y) (Op.equalIn (9998 + 1 + 1) t x' y')
  cases ht with
  | int k h1 h2 => exact r_eqInt hG h1 h2 _ hx hy
  | float k h1 => exact r_eqFloat h1 _ hx hy
  | slice e h1 => exact r_eqSlice h1 _ hx hy
  | two f g h1 h2 h3 => exact r_eqTwo hG h1 h2 h3 _ hx hy
theorem r_binEq (hG : P.globals.size ≤ G) {op : BinOp} (ho : op = .eql ∨ op = .neq) {t : TypeId} (ht : EqT P t) {x x' y y' : Value} (hx : VR G FS B x x') (hy : VR G FS B y y') : SemR (G := G) (FS := FS) P (VQ G FS) B (binOp op t x y) (binOp op t x' y') := by
  have key : SemR (G := G) (FS := FS) P (VQ G FS) B (do pure (.bool (← Op.equal t x y))) (do pure (.bool (← Op.equal t x' y'))) := r_bind (r_equal hG ht hx hy) fun _ _ b b' hb => by obtain rfl : b' = b := hb; exact r_pure (.bool _)
  have key' : SemR (G := G) (FS := FS) P (VQ G FS) B (do pure (.bool (!(← Op.equal t x y)))) (do pure (.bool (!(← Op.equal t x' y')))) := r_bind (r_equal hG ht hx hy) fun _ _ b b' hb => by obtain rfl : b' = b := hb; exact r_pure (.bool _)
  rcases ho with rfl | rfl
  · cases hx <;> first | exact key | (cases hy <;> first | exact key | exact r_stringOp _ _ _ | skip)
    · unfold binOp
      simp only
      split
      · exact r_stuck _ _
      · exact r_intCmp _ _ _
    · unfold binOp
      simp only
      split
      · exact r_stuck _ _
      · exact r_floatCmp _ _ _ _
    · exact r_stringOp .eql _ _
  · cases hx <;> first | exact key' | (cases hy <;> first | exact key' | exact r_stringOp _ _ _ | skip)
    · unfold binOp
      simp only
      split
      · exact r_stuck _ _
      · exact r_intCmp _ _ _
    · unfold binOp
      simp only
      split
      · exact r_stuck _ _
      · exact r_floatCmp _ _ _ _
    · exact r_stringOp .neq _ _
theorem r_guardIn {t : TypeId} (ht : EqT P t) : SemR (G := G) (FS := FS) P (fun _ b b' => b = false ∧ b' = false) B (Op.eqGuardIn Op.maxDepth t .nilIface .nilIface) (Op.eqGuardIn Op.maxDepth t .nilIface .nilIface) := by
  show SemR P _ B (Op.eqGuardIn (9999 + 1) t .nilIface .nilIface) (Op.eqGuardIn (9999 + 1) t .nilIface .nilIface)
  unfold Op.eqGuardIn
  refine rb_underlying fun d hd => ?_
  cases ht with
  | int k h1 _ => rw [h1] at hd; injection hd with hd; subst hd; exact r_pure ⟨rfl, rfl⟩
  | float k h1 => rw [h1] at hd; injection hd with hd; subst hd; exact r_pure ⟨rfl, rfl⟩
  | slice e h1 => rw [h1] at hd; injection hd with hd; subst hd; exact r_pure ⟨rfl, rfl⟩
  | two f g h1 _ _ => rw [h1] at hd; injection hd with hd; subst hd; exact r_pure ⟨rfl, rfl⟩
theorem r_noGuard {op : BinOp} (h1 : op ≠ .eql) (h2 : op ≠ .neq) (t : TypeId) (o o' : Operand) (x x' y y' : Value) : SemR (G := G) (FS := FS) P EqQ B (eqGuard op t o o' x y) (eqGuard op t o o' x' y') := by
  cases op <;> first | exact absurd rfl h1 | exact absurd rfl h2 | exact r_pure (Q := EqQ) rfl
theorem r_eqGuard {op : BinOp} (ho : op = .eql ∨ op = .neq) {t : TypeId} (ht : EqT P t) (hg : P.eqGuardType P.depth t = false) (o o' : Operand) {x x' y y' : Value} (hx : VR G FS B x x') (hy : VR G FS B y y') : SemR (G := G) (FS := FS) P EqQ B (eqGuard op t o o' x y) (eqGuard op t o o' x' y') := by
  rcases ho with rfl | rfl
  all_goals
    cases hx <;> first | exact r_pure (Q := EqQ) rfl | (cases hy <;> first | exact r_pure (Q := EqQ) rfl | skip)
    · cases o <;> cases o' <;> first | exact r_pure (Q := EqQ) rfl | skip
      all_goals
        refine r_bind (r_guardIn ht) fun _ _ b b' hb => ?_
        rw [hb.1, hb.2]
        exact r_pure (Q := EqQ) rfl
    · refine rb_program (rb_program ?_)
      rw [hg]
      exact r_pure (Q := EqQ) rfl

theorem r_unary (op : UnOp) {x x' : Value} (hx : VR G FS B x x') : SemR (G := G) (FS := FS) P (VQ G FS) B (Op.unary op x) (Op.unary op x') := by
  cases op <;> cases hx <;> first | exact r_stuck _ _ | exact r_unsupported _ _ | exact r_pure (.int _ _) | exact r_pure (.float _ _) | exact r_pure (.bool _)
theorem r_floatToInt (s : FloatKind) (b : Nat) (k : IntKind) : SemR (G := G) (FS := FS) P (VQ G FS) B (Conv.floatToInt s b k) (Conv.floatToInt s b k) := by
  have any : ∀ (q : Question), SemR (G := G) (FS := FS) P (VQ G FS) B (do pure (.int k (k.wrap (← choose q)))) (do pure (.int k (k.wrap (← choose q)))) := fun q => .choose fun n => .pure (.int _ _)
  unfold Conv.floatToInt
  simp only
  split
  · split
    · exact r_pure (.int _ _)
    · exact any _
  · exact any _
theorem r_floatToFloat (s : FloatKind) (b : Nat) (k : FloatKind) : SemR (G := G) (FS := FS) P (VQ G FS) B (Conv.floatToFloat s b k) (Conv.floatToFloat s b k) := by
  have any : ∀ (q : Question), SemR (G := G) (FS := FS) P (VQ G FS) B (do pure (.float k (← choose q))) (do pure (.float k (← choose q))) := fun q => .choose fun n => .pure (.float _ _)
  unfold Conv.floatToFloat
  split
  · exact r_pure (.float _ _)
  · split
    · exact any _
    · exact r_pure (.float _ _)
    · simp only
      split
      · exact any _
      · exact r_pure (.float _ _)
/-- Conversions between numbers. -/
theorem r_convert {s d : TypeId} {ds dd : TypeDesc} (hs : P.underlying s = some ds) (hd : P.underlying d = some dd) (ks : (∃ k, ds = .int k) ∨ ∃ k, ds = .float k) (kd : (∃ k, dd = .int k) ∨ ∃ k, dd = .float k) {x x' : Value} (hx : VR G FS B x x') : SemR (G := G) (FS := FS) P (VQ G FS) B (convert s d x) (convert s d x') := by
  unfold convert
  refine rb_underlying fun e he => ?_
  obtain rfl : e = ds := by rw [hs] at he; injection he with he; exact he.symm
  refine rb_underlying fun e' he' => ?_
  obtain rfl : e' = dd := by rw [hd] at he'; injection he' with he'; exact he'.symm
  rcases ks with ⟨k, rfl⟩ | ⟨k, rfl⟩ <;> rcases kd with ⟨l, rfl⟩ | ⟨l, rfl⟩
  all_goals cases hx <;> first | exact r_unsupported _ _ | exact r_pure (.int _ _) | exact r_pure (.float _ _) | exact r_floatToInt _ _ _ | exact r_floatToFloat _ _ _
theorem r_makeInterface (t : TypeId) {x x' : Value} (hx : VR G FS B x x') : SemR (G := G) (FS := FS) P (VQ G FS) B (Instr.makeInterface t x) (Instr.makeInterface t x') := by
  unfold Instr.makeInterface
  refine rb_underlying fun d _ => ?_
  cases d <;> first | exact r_stuck _ _ | exact r_pure (.iface _ hx)
theorem r_index (t : TypeId) {x x' i i' : Value} (hx : VR G FS B x x') (hi : VR G FS B i i') : SemR (G := G) (FS := FS) P (VQ G FS) B (Instr.index t x i) (Instr.index t x' i') := by
  unfold Instr.index
  refine rb_asIntOf hi fun n => ?_
  obtain ⟨k, n⟩ := n
  refine rb_underlying fun d _ => ?_
  cases hx <;> first | (cases d <;> exact r_stuck _ _) | skip
  · cases d <;> first | exact r_stuck _ _ | skip
    simp only
    split
    · exact r_pure (.int _ _)
    · exact r_boundsPanic _ _ _ _ _
  · cases d <;> first | exact r_stuck _ _ | skip
    rename_i hc _ _ _
    simp only
    split
    · exact rb_sizeOf fun n => r_part _ hc _
    · exact r_boundsPanic _ _ _ _ _
theorem r_len (ts : Array TypeId) (t : TypeId) {vas vas' : Array Value} (ha : VRs G FS B vas.toList vas'.toList) : SemR (G := G) (FS := FS) P (VQ G FS) B (Builtin.len_ ts t vas) (Builtin.len_ ts t vas') := by
  unfold Builtin.len_
  cases h0 : ts[0]? with
  | none => exact r_stuck _ _
  | some sT =>
  cases h1 : vas[0]? with
  | none => exact r_stuck _ _
  | some x =>
  obtain ⟨x', e1, hx⟩ := VR.get ha h1
  rw [e1]
  simp only
  refine rb_underlying fun d _ => ?_
  cases d <;> first | exact r_stuck _ _ | exact r_pure (.int _ _) | skip
  case pointer arr =>
    simp only
    refine rb_underlying fun d _ => ?_
    cases d <;> first | exact r_stuck _ _ | exact r_pure (.int _ _)
  all_goals cases hx <;> first | exact r_stuck _ _ | exact r_pure (.int _ _)
theorem r_cap (ts : Array TypeId) (t : TypeId) {vas vas' : Array Value} (ha : VRs G FS B vas.toList vas'.toList) : SemR (G := G) (FS := FS) P (VQ G FS) B (Builtin.cap_ ts t vas) (Builtin.cap_ ts t vas') := by
  unfold Builtin.cap_
  cases h0 : ts[0]? with
  | none => exact r_stuck _ _
  | some sT =>
  cases h1 : vas[0]? with
  | none => exact r_stuck _ _
  | some x =>
  obtain ⟨x', e1, hx⟩ := VR.get ha h1
  rw [e1]
  simp only
  refine rb_underlying fun d _ => ?_
  cases d <;> first | exact r_stuck _ _ | exact r_pure (.int _ _) | skip
  case pointer arr =>
    simp only
    refine rb_underlying fun d _ => ?_
    cases d <;> first | exact r_stuck _ _ | exact r_pure (.int _ _)
  all_goals cases hx <;> first | exact r_stuck _ _ | exact r_pure (.int _ _)
theorem r_clear {ts : Array TypeId} (hz : ∀ t, ts[0]? = some t → SZ G FS P t) (t : TypeId) {vas vas' : Array Value} (ha : VRs G FS B vas.toList vas'.toList) : SemR (G := G) (FS := FS) P (VQ G FS) B (Builtin.clear_ ts t vas) (Builtin.clear_ ts t vas') := by
  unfold Builtin.clear_
  cases h0 : ts[0]? with
  | none => exact r_stuck _ _
  | some sT =>
  cases h1 : vas[0]? with
  | none => exact r_stuck _ _
  | some x =>
  obtain ⟨x', e1, hx⟩ := VR.get ha h1
  rw [e1]
  simp only
  refine rb_underlying fun d hd => ?_
  cases hx <;> first | exact r_pure (.tuple .nil) | (cases d <;> exact r_stuckBind _ _ _) | skip
  rename_i l c hx
  cases l with
  | zero => exact r_pure (.tuple .nil)
  | succ l =>
    cases d <;> first | exact r_stuckBind _ _ _ | skip
    simp only
    refine rb_zeroValue (hz sT h0 _ hd) fun v hv => ?_
    refine rb_storeCells ?_ 0 hx (zeroCells_rel hv.cells _)
    exact r_pure (VR.tuple VRs.nil)
end
end Go.Proofs.Ytgeoffpcmkofkaa
/- One operation is matched. -/
namespace Go.Proofs.Ytgeoffpcmkofkaa
open Go

section
variable (G : Nat) (FS : FuncId → Prop) (P : Program)
inductive NextR (B : BR) : Next → Next → Prop
  | value {v v' : Value} : VR G FS B v v' → NextR B (.value v) (.value v')
  | skip : NextR B .skip .skip
  | enter (f : FuncId) {vas vas' : Array Value} : FS f → VRs G FS B vas.toList vas'.toList → NextR B (.enter f vas) (.enter f vas')
structure OpenOK : Prop where
  glob : P.globals.size ≤ G
  funcs : ∀ f, FS f → ∀ fn, P.funcs[f]? = some fn → (fn.name == "runtime.NumGoroutine") = false ∧ (fn.body.isNone = false ∨ (fn.body.isNone = true ∧ Extern.findNext fn = none ∧ ∃ e, Extern.find fn = some e ∧ ∀ B vas vas', VRs G FS B vas.toList vas'.toList → SemR (G := G) (FS := FS) P (VQ G FS) B (e vas) (e vas')))
def OperOK : Operand → Prop
  | .tmp _ => True
  | .const v => ∀ B, VR G FS B v v
  | .global _ => False
  | .func f => FS f
def OptOK (o : Option Operand) : Prop := ∀ x, o = some x → OperOK G FS x
def NumT (t : TypeId) : Prop := ∃ d, P.underlying t = some d ∧ ((∃ k, d = .int k) ∨ ∃ k, d = .float k)
def OpTame : Op → Prop
  | .move x | .assign x | .box _ x | .load _ x | .nilCheck x | .unOp _ _ x | .makeInterface _ x | .extract x _ | .panic x => OperOK G FS x
  | .pick c a b => OperOK G FS c ∧ OperOK G FS a ∧ OperOK G FS b
  | .alloc e => ZT G FS P e
  | .buildSlice t _ ps => SZ G FS P t ∧ ∀ p ∈ ps.toList, OperOK G FS p.2
  | .makeSlice t a x => SZ G FS P t ∧ OperOK G FS a ∧ OperOK G FS x
  | .store _ a x | .indexAddr _ a x | .index _ a x => OperOK G FS a ∧ OperOK G FS x
  | .binOp op t x y _ => OperOK G FS x ∧ OperOK G FS y ∧ ((op ≠ .eql ∧ op ≠ .neq) ∨ ((op = .eql ∨ op = .neq) ∧ EqT P t ∧ P.eqGuardType P.depth t = false))
  | .convert s d x => OperOK G FS x ∧ NumT P s ∧ NumT P d
  | .slice t x lo hi mx => OperOK G FS x ∧ OptOK G FS lo ∧ OptOK G FS hi ∧ mx = none ∧ ∃ e, P.underlying t = some (.slice e)
  | .fieldAddr s x f => OperOK G FS x ∧ ∀ fields fl, P.underlying s = some (.struct fields) → fields[f]? = some fl → ∃ i, P.info? fl.type = some i ∧ i.size ≠ 0
  | .call c => (∀ o ∈ c.args.toList, OperOK G FS o) ∧ match c.callee with
    | .value f => OperOK G FS f
    | .builtin b => (b = .append ∧ ∀ t, c.argTypes[0]? = some t → SZ G FS P t) ∨ b = .cap ∨ b = .len ∨ (b = .clear ∧ ∀ t, c.argTypes[0]? = some t → SZ G FS P t)
    | .invoke .. => False
  | _ => False
end

section
variable {G : Nat} {FS : FuncId → Prop} {P : Program} {B : BR}
abbrev NQ (G : Nat) (FS : FuncId → Prop) : BR → Next → Next → Prop := fun B v v' => NextR G FS B v v'
theorem r_v {s s' : Sem Value} (h : SemR (G := G) (FS := FS) P (VQ G FS) B s s') : SemR (G := G) (FS := FS) P (NQ G FS) B (do pure (.value (← s))) (do pure (.value (← s'))) := r_bind h fun _ _ _ _ h => r_pure (.value h)
theorem r_u {s s' : Sem Unit} (h : SemR (G := G) (FS := FS) P EqQ B s s') : SemR (G := G) (FS := FS) P (NQ G FS) B (do s; pure .skip) (do s'; pure .skip) := r_bind h fun _ _ _ _ _ => r_pure .skip
theorem r_callFunc (H : OpenOK G FS P) {f : FuncId} (hf : FS f) {vas vas' : Array Value} (ha : VRs G FS B vas.toList vas'.toList) : SemR (G := G) (FS := FS) P (NQ G FS) B (callFunc f vas) (callFunc f vas') := by
  unfold callFunc
  refine rb_program ?_
  cases hfn : P.funcs[f]? with
  | none => exact r_stuck _ _
  | some fn =>
    obtain ⟨h1, h2⟩ := H.funcs f hf fn hfn
    simp only [h1, Bool.false_eq_true, if_false]
    rcases h2 with h2 | ⟨h2, h3, e, h4, h5⟩
    · simp only [h2, Bool.false_eq_true, if_false]
      exact r_pure (.enter f hf ha)
    · simp only [h2, if_true, h3, h4]
      exact r_bind (r_mark (.inr ⟨f, rfl⟩)) fun B1 b1 _ _ _ => r_v (h5 B1 _ _ (ha.mono b1))
theorem r_nilCheck {x x' : Value} (hx : VR G FS B x x') (ρ ρ' : Operand → Value) (o : Oper) (y : Operand) (ho : o.op = .nilCheck y) (h1 : ρ y = x) (h2 : ρ' y = x') : SemR (G := G) (FS := FS) P (NQ G FS) B (execOp ρ o) (execOp ρ' o) := by
  unfold execOp
  simp only [ho, h1, h2]
  cases hx <;> first | exact r_runtimePanic _ _ | (refine r_pure (.value ?_); constructor; assumption) | (refine r_pure (.value ?_); constructor)
theorem m_panicnil : MildT P Instr.panicnil := by
  refine m_bind (m_sys _) fun r => ?_
  split
  · exact m_bind m_program fun _ => m_pure _
  · exact m_stuck _
theorem dead_panic (v : Value) : Dead P (Instr.panic v) := by
  unfold Instr.panic
  split
  · exact dead_goPanic _
  · refine dead_then m_panicnil fun i => ?_
    split
    · exact dead_goPanic _
    · exact dead_runtimePanic _
  · exact dead_stuck _
theorem rho_list {ρ ρ' : Operand → Value} : ∀ (l : List Operand), (∀ o ∈ l, VR G FS B (ρ o) (ρ' o)) → VRs G FS B (l.map ρ) (l.map ρ')
  | [], _ => .nil
  | o :: l, h => .cons (h o (by simp)) (rho_list l fun x hx => h x (by simp [hx]))
theorem rho_pairs {ρ ρ' : Operand → Value} : ∀ (l : List (Nat × Operand)), (∀ o ∈ l, VR G FS B (ρ o.2) (ρ' o.2)) → PRs G FS B (l.map fun (i, x) => (i, ρ x)) (l.map fun (i, x) => (i, ρ' x))
  | [], _ => .nil
  | o :: l, h => .cons (h o (by simp)) (rho_pairs l fun x hx => h x (by simp [hx]))
theorem rho_opt {ρ ρ' : Operand → Value} (o : Option Operand) (h : ∀ x, o = some x → VR G FS B (ρ x) (ρ' x)) : OV G FS B (o.map ρ) (o.map ρ') := by
  cases o with
  | none => exact trivial
  | some x => exact h x rfl
theorem r_execOp (H : OpenOK G FS P) {ρ ρ' : Operand → Value} (hρ : ∀ x, OperOK G FS x → VR G FS B (ρ x) (ρ' x)) {o : Oper} (ho : OpTame G FS P o.op) : SemR (G := G) (FS := FS) P (NQ G FS) B (execOp ρ o) (execOp ρ' o) := by
  cases h : o.op <;> rw [h] at ho <;> (try exact ho.elim)
  case nilCheck x => exact r_nilCheck (hρ x ho) ρ ρ' o x h rfl rfl
  all_goals (unfold execOp; simp only [h])
  case move x => exact r_pure (.value (hρ x ho))
  case assign x => exact r_pure (.value (hρ x ho))
  case pick c a b =>
    refine r_bind (r_asBool (hρ c ho.1)) fun B1 h1 b b' hb => ?_
    obtain rfl : b' = b := hb
    cases b'
    · exact r_pure (.value ((hρ _ ho.2.2).mono h1))
    · exact r_pure (.value ((hρ _ ho.2.1).mono h1))
  case alloc e => exact r_v (r_alloc ho)
  case box e x => exact r_v (r_box e (hρ x ho))
  case buildSlice t l ps =>
    refine r_v (r_buildSlice ho.1 l ?_)
    simp only [Array.toList_map]
    exact rho_pairs _ fun p hp => hρ _ (ho.2 p hp)
  case load t a => exact r_v (r_loadAt t (hρ a ho))
  case store t a x => exact r_u (r_storeAt t (hρ a ho.1) (hρ x ho.2))
  case binOp op t x y u =>
    obtain ⟨hx, hy, hh⟩ := ho
    refine r_v ?_
    rcases hh with ⟨h1, h2⟩ | ⟨h1, h2, h3⟩
    · exact r_bind (r_noGuard h1 h2 t x y _ _ _ _) fun B1 b1 _ _ _ => r_binOp H.glob h1 h2 t ((hρ x hx).mono b1) ((hρ y hy).mono b1)
    · exact r_bind (r_eqGuard h1 h2 h3 x y (hρ x hx) (hρ y hy)) fun B1 b1 _ _ _ => r_binEq H.glob h1 h2 ((hρ x hx).mono b1) ((hρ y hy).mono b1)
  case unOp op t x => exact r_v (r_unary op (hρ x ho))
  case convert s d x =>
    obtain ⟨hx, ⟨ds, h1, h2⟩, ⟨dd, h3, h4⟩⟩ := ho
    exact r_v (r_convert h1 h3 h2 h4 (hρ x hx))
  case makeInterface t x => exact r_v (r_makeInterface t (hρ x ho))
  case makeSlice t a x => exact r_v (r_makeSlice ho.1 (hρ a ho.2.1) (hρ x ho.2.2))
  case slice t x lo hi mx =>
    obtain ⟨hx, hl, hh, rfl, e, he⟩ := ho
    exact r_v (r_sliceAt t he (hρ x hx) (rho_opt lo fun y hy => hρ y (hl y hy)) (rho_opt hi fun y hy => hρ y (hh y hy)))
  case fieldAddr s x f => exact r_v (r_fieldAt s (hρ x ho.1) f ho.2)
  case indexAddr t x i => exact r_v (r_indexAt t (hρ x ho.1) (hρ i ho.2))
  case index t x i => exact r_v (r_index t (hρ x ho.1) (hρ i ho.2))
  case extract x i => exact r_v (r_extract (hρ x ho) i)
  case panic x => exact .dead (dead_bind (dead_panic _))
  case call c =>
    have hargs : VRs G FS B (c.args.map ρ).toList (c.args.map ρ').toList := by
      simp only [Array.toList_map]
      exact rho_list _ fun p hp => hρ _ (ho.1 p hp)
    unfold resolve
    have ho2 := ho.2
    cases hc : c.callee with
    | invoke r n => rw [hc] at ho2; exact ho2.elim
    | builtin b =>
      rw [hc] at ho2
      simp only
      refine rb_pure ?_
      rcases ho2 with ⟨rfl, hz⟩ | rfl | rfl | ⟨rfl, hz⟩
      · exact r_v (r_append hz _ hargs)
      · exact r_v (r_cap _ _ hargs)
      · exact r_v (r_len _ _ hargs)
      · exact r_v (r_clear hz _ hargs)
    | value f =>
      rw [hc] at ho2
      simp only
      have hf := hρ f ho2
      revert hf
      generalize ρ f = v
      generalize ρ' f = v'
      intro hf
      cases hf <;> first | exact r_stuckBind _ _ _ | skip
      case nilFunc => exact r_runtimePanic .nilDeref _
      rename_i g hg
      refine rb_pure ?_
      refine r_callFunc H hg ?_
      simpa using hargs
end
end Go.Proofs.Ytgeoffpcmkofkaa
/- A lone run reads of its tape no more than what it draws. -/
namespace Go.Proofs.Ytgeoffpcmkofkaa
open Go

/-- The same world, another tape. -/
def on (w : World) (T : Nat → Question → Nat) : World := { w with tape := T }
section
variable {G : Nat} {FS : FuncId → Prop} {Sh : Nat → Prop} {P : Program} {α α' : Type} {Q : BR → α → α' → Prop}
structure RunOn (P : Program) (s : Sem α) (wl : World) (a : α) (wl' : World) : Prop where
  mono : wl.drawn ≤ wl'.drawn
  same : wl'.tape = wl.tape
  run : ∀ T, (∀ i q, wl.drawn ≤ i → i < wl'.drawn → T i q = wl.tape i q) → s.run P (on wl T) = .ok a (on wl' T)
theorem SemR.run_on {B : BR} {s : Sem α} {s' : Sem α'} (h : SemR (G := G) (FS := FS) P Q B s s') : ∀ {wl w : World} {a : α} {wl' : World}, WR G FS Sh B wl w → s.run P wl = .ok a wl' → RunOn P s wl a wl' := by
  induction h with
  | pure hq =>
    intro wl w a wl' hw hr
    simp only [Sem.run] at hr
    cases hr
    exact ⟨Nat.le_refl _, rfl, fun _ _ => rfl⟩
  | @load B a a' k k' ha _ ih =>
    intro wl w x wl' hw hr
    simp only [Sem.run] at hr
    cases hc : wl.cell? a with
    | none =>
      rw [hc] at hr
      simp only at hr
      have := (hw.far (P := P) ha (Mode.plain == .atomic)).1
      split at hr
      · rename_i hf; exact absurd hf (this _)
      · cases hr
    | some v =>
      rw [hc] at hr
      obtain ⟨v', hv', hvr⟩ := hw.cell ha hc
      have g := ih v v' hvr hw hr
      refine ⟨g.mono, g.same, fun T hT => ?_⟩
      have e : (on wl T).cell? a = some v := hc
      simp only [Sem.run, e]
      exact g.run T hT
  | @store B a a' v v' k k' ha hv _ ih =>
    intro wl w x wl' hw hr
    have key : ∀ (hag : ∀ cs, v ≠ .agg cs) (htu : ∀ cs, v ≠ .tuple cs), RunOn P (.store .plain a v k) wl x wl' := by
      intro hag htu
      have e1 : ∀ wl : World, (Sem.store .plain a v k).run P wl = match wl.cell? a with
          | some _ => if wl.frozen? a then .halt (.unsupported (.unsafePointer "a write to bytes that a string shares")) wl else k.run P (wl.setCell a v)
          | none => match wl.farStore P a v (Mode.plain == .atomic) with
            | .ok (w, _) => k.run P w
            | .error h => .halt h wl := by
        intro wl
        cases v <;> first | rfl | exact absurd rfl (hag _) | exact absurd rfl (htu _)
      rw [e1] at hr
      cases hc : wl.cell? a with
      | none =>
        rw [hc] at hr
        simp only at hr
        have := (hw.far (P := P) ha (Mode.plain == .atomic)).2 v
        split at hr
        · rename_i hf; exact absurd hf (this _)
        · cases hr
      | some u =>
        rw [hc] at hr
        simp only at hr
        by_cases hf : wl.frozen? a = true
        · rw [if_pos hf] at hr; cases hr
        · rw [if_neg hf] at hr
          have g := ih (hw.set ha hc hv) hr
          refine ⟨g.mono, g.same, fun T hT => ?_⟩
          rw [e1 (on wl T)]
          have hc' : (on wl T).cell? a = some u := hc
          rw [hc']
          simp only
          have hf' : ¬(on wl T).frozen? a = true := hf
          rw [if_neg hf']
          exact g.run T hT
    cases v with
    | agg cs => simp [Sem.run] at hr
    | tuple cs => simp [Sem.run] at hr
    | _ => exact key (fun _ h => by cases h) (fun _ h => by cases h)
  | @getNum B r r' k k' hb _ ih =>
    intro wl w x wl' hw hr
    obtain ⟨o, o', g1, g2, g3⟩ := hw.blk r r' hb
    simp only [Sem.run, g1] at hr
    cases g3 with
    | cells _ _ _ => simp at hr
    | @number a a' l ha hns =>
      simp only at hr
      have g := ih a a' l ha hw hr
      refine ⟨g.mono, g.same, fun T hT => ?_⟩
      have e : (on wl T).heap[r]? = some (.number a l) := g1
      simp only [Sem.run, e]
      exact g.run T hT
  | @newNum B a a' l k k' ha _ ih =>
    intro wl w x wl' hw hr
    simp only [Sem.run] at hr
    have g := ih wl.heap.size w.heap.size hw.glob (hw.new fun hs => .number ha hs) hr
    exact ⟨g.mono, g.same, fun T hT => g.run T hT⟩
  | @new B c c' e k k' hc _ ih =>
    intro wl w x wl' hw hr
    simp only [Sem.run] at hr
    have g := ih wl.heap.size w.heap.size hw.glob (hw.new fun hs => .cells hc (fun k => absurd k hs) fun _ => rfl) hr
    exact ⟨g.mono, g.same, fun T hT => g.run T hT⟩
  | @shape B r r' k k' hb _ ih =>
    intro wl w x wl' hw hr
    simp only [Sem.run] at hr
    have g := ih _ hw hr
    exact ⟨g.mono, g.same, fun T hT => g.run T hT⟩
  | @choose B q k k' _ ih =>
    intro wl w x wl' hw hr
    simp only [Sem.run] at hr
    by_cases hq : q.forced = true
    · rw [if_pos hq] at hr
      have g := ih _ hw hr
      refine ⟨g.mono, g.same, fun T hT => ?_⟩
      simp only [Sem.run, if_pos hq]
      exact g.run T hT
    · rw [if_neg hq] at hr
      have g := ih _ hw.draw hr
      have hm : wl.drawn + 1 ≤ wl'.drawn := g.mono
      refine ⟨by omega, g.same, fun T hT => ?_⟩
      simp only [Sem.run, if_neg hq]
      have e : (on wl T).tape (on wl T).drawn q = wl.tape wl.drawn q := hT wl.drawn q (Nat.le_refl _) (by omega)
      rw [e]
      exact g.run T fun i q h1 h2 => hT i q (by have : wl.drawn + 1 ≤ i := h1; omega) h2
  | program _ ih =>
    intro wl w x wl' hw hr
    simp only [Sem.run] at hr
    have g := ih hw hr
    exact ⟨g.mono, g.same, fun T hT => g.run T hT⟩
  | @mark B m k k' hm _ ih =>
    intro wl w x wl' hw hr
    simp only [Sem.run] at hr
    have g := ih hw hr
    exact ⟨g.mono, g.same, fun T hT => g.run T hT⟩
  | dead hd =>
    intro wl w x wl' hw hr
    exact absurd hr (hd.1 _ _ _)
theorem farLoad_mild {w : World} {a : Addr} {b : Bool} {h : Halt} (hr : w.farLoad P a b = .error h) : MildH h := by
  unfold World.farLoad at hr
  split at hr
  · split at hr
    · cases hr
    · injection hr with hr; subst hr; trivial
  · injection hr with hr
    subst hr
    unfold World.noCell
    split <;> trivial
theorem farStore_mild {w : World} {a : Addr} {v : Value} {b : Bool} {h : Halt} (hr : w.farStore P a v b = .error h) : MildH h := by
  unfold World.farStore at hr
  split at hr
  · split at hr
    · cases hr
    · injection hr with hr; subst hr; trivial
  · injection hr with hr
    subst hr
    unfold World.noCell
    split <;> trivial
theorem SemR.halts {B : BR} {s : Sem α} {s' : Sem α'} (h : SemR (G := G) (FS := FS) P Q B s s') : ∀ {wl w : World} {x : Halt} {wl' : World}, WR G FS Sh B wl w → s.run P wl = .halt x wl' → MildH x := by
  induction h with
  | pure hq => intro wl w x wl' hw hr; cases hr
  | @load B a a' k k' ha _ ih =>
    intro wl w x wl' hw hr
    simp only [Sem.run] at hr
    cases hc : wl.cell? a with
    | none =>
      rw [hc] at hr
      simp only at hr
      have := (hw.far (P := P) ha (Mode.plain == .atomic)).1
      split at hr
      · rename_i hf; exact absurd hf (this _)
      · rename_i hf
        injection hr with hr _
        subst hr
        exact farLoad_mild hf
    | some v =>
      rw [hc] at hr
      obtain ⟨v', hv', hvr⟩ := hw.cell ha hc
      exact ih v v' hvr hw hr
  | @store B a a' v v' k k' ha hv _ ih =>
    intro wl w x wl' hw hr
    have key : ∀ (hag : ∀ cs, v ≠ .agg cs) (htu : ∀ cs, v ≠ .tuple cs), MildH x := by
      intro hag htu
      have e1 : ∀ wl : World, (Sem.store .plain a v k).run P wl = match wl.cell? a with
          | some _ => if wl.frozen? a then .halt (.unsupported (.unsafePointer "a write to bytes that a string shares")) wl else k.run P (wl.setCell a v)
          | none => match wl.farStore P a v (Mode.plain == .atomic) with
            | .ok (w, _) => k.run P w
            | .error h => .halt h wl := by
        intro wl
        cases v <;> first | rfl | exact absurd rfl (hag _) | exact absurd rfl (htu _)
      rw [e1] at hr
      cases hc : wl.cell? a with
      | none =>
        rw [hc] at hr
        simp only at hr
        have := (hw.far (P := P) ha (Mode.plain == .atomic)).2 v
        split at hr
        · rename_i hf; exact absurd hf (this _)
        · rename_i hf
          injection hr with hr _
          subst hr
          exact farStore_mild hf
      | some u =>
        rw [hc] at hr
        simp only at hr
        by_cases hf : wl.frozen? a = true
        · rw [if_pos hf] at hr
          injection hr with hr _
          subst hr
          trivial
        · rw [if_neg hf] at hr
          exact ih (hw.set ha hc hv) hr
    cases v with
    | agg cs => simp [Sem.run] at hr; rw [← hr.1]; trivial
    | tuple cs => simp [Sem.run] at hr; rw [← hr.1]; trivial
    | _ => exact key (fun _ h => by cases h) (fun _ h => by cases h)
  | @getNum B r r' k k' hb _ ih =>
    intro wl w x wl' hw hr
    obtain ⟨o, o', g1, g2, g3⟩ := hw.blk r r' hb
    simp only [Sem.run, g1] at hr
    cases g3 with
    | cells _ _ _ => simp only at hr; injection hr with hr _; subst hr; trivial
    | @number a a' l ha hns => exact ih a a' l ha hw hr
  | @newNum B a a' l k k' ha _ ih =>
    intro wl w x wl' hw hr
    exact ih wl.heap.size w.heap.size hw.glob (hw.new fun hs => .number ha hs) hr
  | @new B c c' e k k' hc _ ih =>
    intro wl w x wl' hw hr
    exact ih wl.heap.size w.heap.size hw.glob (hw.new fun hs => .cells hc (fun k => absurd k hs) fun _ => rfl) hr
  | @shape B r r' k k' hb _ ih =>
    intro wl w x wl' hw hr
    exact ih _ hw hr
  | @choose B q k k' _ ih =>
    intro wl w x wl' hw hr
    simp only [Sem.run] at hr
    by_cases hq : q.forced = true
    · rw [if_pos hq] at hr
      exact ih _ hw hr
    · rw [if_neg hq] at hr
      exact ih _ hw.draw hr
  | program _ ih => intro wl w x wl' hw hr; exact ih hw hr
  | @mark B m k k' hm _ ih => intro wl w x wl' hw hr; exact ih hw hr
  | dead hd => intro wl w x wl' hw hr; exact hd.2 _ _ _ hr
end
end Go.Proofs.Ytgeoffpcmkofkaa
/- Steps of a frame whose operations are all tame. -/
namespace Go.Proofs.Ytgeoffpcmkofkaa
open Go

section
variable (G : Nat) (FS : FuncId → Prop) (P : Program)
/-- Code that this calculus bears. -/
def CodeT : Code → Prop
  | .region _ ops _ => ∀ o ∈ ops.toList, OpTame G FS P o.op
  | .seq a b => CodeT a ∧ CodeT b
  | .cond c a b => OperOK G FS c ∧ CodeT a ∧ CodeT b
  | .block _ b | .loop b | .scope b => CodeT b
  | .rangeFunc .. => False
  | _ => True
def ItemT : Item → Prop
  | .code c => CodeT G FS P c
  | .inLoop b | .inScope b => CodeT G FS P b
  | .inBlock _ => True
  | .inRegion ops _ => ∀ o ∈ ops.toList, OpTame G FS P o.op
  | _ => False
/-- All functions of the set: their bodies and their results. -/
structure BodiesOK : Prop where
  body : ∀ f, FS f → ∀ fn, P.funcs[f]? = some fn → ∀ c, fn.body = some c → CodeT G FS P c
  res : ∀ f, FS f → ∀ fn, P.funcs[f]? = some fn → ∀ r ∈ fn.results.toList, ∃ t, r = .tmp t
  loud : ∀ f, FS f → ∀ fn, P.funcs[f]? = some fn → fn.norace = false
  there : ∀ f, FS f → ∃ fn, P.funcs[f]? = some fn
structure FT (fr : Frame) : Prop where
  fn : FS fr.fn
  todo : ∀ i ∈ fr.todo, ItemT G FS P i
  defers : fr.defers = []
  kind : fr.kind = .normal
  round : fr.roundOf = none
/-- Two frames that differ in the numbers of blocks alone. -/
structure FR (B : BR) (fr fr' : Frame) : Prop where
  ft : FT G FS P fr
  tmps : VRs G FS B fr.tmps.toList fr'.tmps.toList
  eq : fr' = { fr with tmps := fr'.tmps }
inductive FRs (B : BR) : List Frame → List Frame → Prop
  | nil : FRs B [] []
  | cons {fr fr' : Frame} {l l' : List Frame} : FR G FS P B fr fr' → fr.mode = .run → (∃ ops i rest k, fr.todo = .inRegion ops (i :: rest) :: k) → FRs B l l' → FRs B (fr :: l) (fr' :: l')
end

/-- A step that leaves memory alone. -/
def ctl (fr : Frame) : Option Frame :=
  match fr.todo with
  | [] => some { fr with mode := .returning }
  | .code .ret :: _ => some { fr with mode := .returning }
  | .code .skip :: k => some { fr with todo := k }
  | .code (.label _) :: k => some { fr with todo := k }
  | .inBlock _ :: k => some { fr with todo := k }
  | .inScope _ :: k => some { fr with todo := k }
  | .code (.seq a b) :: k => some { fr with todo := .code a :: .code b :: k }
  | .code (.cond c a b) :: k => match fr.eval c with
    | .bool true => some { fr with todo := .code a :: k }
    | .bool false => some { fr with todo := .code b :: k }
    | _ => none
  | .code (.block id b) :: k => some { fr with todo := .code b :: .inBlock id :: k }
  | .code (.loop b) :: k => some { fr with todo := .code b :: .inLoop b :: k }
  | .inLoop b :: k => some { fr with todo := .code b :: .inLoop b :: k }
  | .code (.scope b) :: k => some { fr with todo := .code b :: .inScope b :: k }
  | .code (.exit id) :: k => (exitTo id k).map fun k => { fr with todo := k }
  | .code (.goto l) :: k => (gotoIn l k).map fun k => { fr with todo := k }
  | .code (.region _ ops false) :: k => some { fr with todo := .inRegion ops (List.range ops.size) :: k }
  | .inRegion _ [] :: k => some { fr with todo := k }
  | .inRegion ops (i :: _) :: _ => if ((ops[i]?).map (Region.wanted · (yielded ops fr.tmps))).getD false then none else some (fr.finish undef)
  | _ => none
/-- What follows an operation. -/
def after (P : Program) (fr : Frame) (cs : List Frame) : Next → Option (Frame × List Frame)
  | .value v => some (fr.finish v, cs)
  | .skip => some (fr.finish undef, cs)
  | .enter f args => some (Frame.enter P f args .normal, fr :: cs)
  | _ => none
inductive Step1 (P : Program) : Frame → List Frame → World → Frame → List Frame → World → Array Event → Prop
  | ctl {fr fr1 : Frame} {cs : List Frame} {w : World} : fr.mode = .run → ctl fr = some fr1 → Step1 P fr cs w fr1 cs w #[]
  | draw {fr : Frame} {cs : List Frame} {w w1 : World} {id : Nat} {ops : Array Oper} {k : List Item} {t : Nat} : fr.mode = .run → fr.todo = .code (.region id ops true) :: k → (choose (.order fr.fn id)).run P w = .ok t w1 → Step1 P fr cs w { fr with todo := .inRegion ops (Region.schedule (P.follows .mixedOrders) ops t) :: k } cs w1 #[]
  | oper {fr fr1 : Frame} {cs cs1 : List Frame} {w w1 : World} {ops : Array Oper} {i : Nat} {rest : List Nat} {k : List Item} {o : Oper} {n : Next} {es : Array Event} : fr.mode = .run → fr.todo = .inRegion ops (i :: rest) :: k → ops[i]? = some o → Region.wanted o (yielded ops fr.tmps) = true → (execOp fr.eval o).runT P w #[] = (.ok n w1, es) → after P fr cs n = some (fr1, cs1) → Step1 P fr cs w fr1 cs1 w1 (seen P fr.fn es)
  | ret {fr c : Frame} {cs : List Frame} {w : World} {fn : Func} {v : Value} : fr.mode = .returning → P.funcs[fr.fn]? = some fn → (results fn fr.tmps).runT P w #[] = (.ok v w, #[]) → Step1 P fr (c :: cs) w (c.finish v) cs w #[]
end Go.Proofs.Ytgeoffpcmkofkaa
