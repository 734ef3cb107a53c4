/- Operations are matched: binOp. -/
import Derived.Test.YtgeoffpcmkofkaaKg
namespace Go.Proofs.Ytgeoffpcmkofkaa
open Go

section
variable {G : Nat} {FS : FuncId → Prop} {P : Program} {α α' β β' : Type} {Q : BR → α → α' → Prop} {Q' : BR → β → β' → Prop} {B : BR}
theorem dead_deep {op : BinOp} (h1 : op ≠ .eql) (h2 : op ≠ .neq) (t : TypeId) {x y : Value} (h : Deep x ∨ Deep y) : Dead P (binOp op t x y) := by
  unfold binOp
  split <;> first | exact dead_stuck _ | exact dead_unsupported _ | (exfalso; rcases h with h | h <;> cases h; done) | exact absurd rfl h1 | exact absurd rfl h2
theorem dead_pp (hG : P.globals.size ≤ G) {op : BinOp} (h1 : op ≠ .eql) (h2 : op ≠ .neq) (t : TypeId) {a b a' b' : Addr} (ha : AR G B a a') (hb : AR G B b b') : SemR (G := G) (FS := FS) P (VQ G FS) B (binOp op t (.pointer (some a)) (.pointer (some b))) (binOp op t (.pointer (some a')) (.pointer (some b'))) := by
  cases op <;> first | exact absurd rfl h1 | exact absurd rfl h2 | exact r_unsupported _ _ | skip
  all_goals
    refine rb_behindNumber ha fun c c' l hc => ?_
    refine rb_behindNumber hb fun d d' l' hd => ?_
    exact .dead (dead_bind (dead_twoPlaces hG hc.low _))
theorem r_pi {op : BinOp} (h1 : op ≠ .eql) (h2 : op ≠ .neq) (t : TypeId) {a a' : Addr} (ha : AR G B a a') (k : IntKind) (n : Int) : SemR (G := G) (FS := FS) P (VQ G FS) B (binOp op t (.pointer (some a)) (.int k n)) (binOp op t (.pointer (some a')) (.int k n)) := by
  cases op <;> first | exact absurd rfl h1 | exact absurd rfl h2 | exact r_unsupported _ _ | exact r_movedNumber t ha (.int _ _) | exact rb_behindNumber ha fun c c' l hc => r_addrMod _ hc _ | skip
  refine rb_underlying fun d hd => ?_
  split
  · exact r_movedPointer t ha (.int _ _)
  · exact r_movedNumber t ha (.int _ _)
theorem r_ip {op : BinOp} (h1 : op ≠ .eql) (h2 : op ≠ .neq) (t : TypeId) {a a' : Addr} (ha : AR G B a a') (k : IntKind) (n : Int) : SemR (G := G) (FS := FS) P (VQ G FS) B (binOp op t (.int k n) (.pointer (some a))) (binOp op t (.int k n) (.pointer (some a'))) := by
  cases op <;> first | exact absurd rfl h1 | exact absurd rfl h2 | exact r_unsupported _ _ | exact r_movedNumber t ha (.int _ _) | exact rb_behindNumber ha fun c c' l hc => r_addrMod _ hc _
theorem dead_px {op : BinOp} (h1 : op ≠ .eql) (h2 : op ≠ .neq) (t : TypeId) (a : Addr) {y : Value} (hi : ∀ k n, y ≠ .int k n) (hp : ∀ b, y ≠ .pointer (some b)) : Dead P (binOp op t (.pointer (some a)) y) := by
  generalize hx : Value.pointer (some a) = x
  unfold binOp
  split <;> first | exact dead_stuck _ | exact dead_unsupported _ | exact absurd rfl h1 | exact absurd rfl h2 | exact absurd rfl (hi _ _) | exact absurd rfl (hp _) | cases hx
theorem dead_xp {op : BinOp} (h1 : op ≠ .eql) (h2 : op ≠ .neq) (t : TypeId) (a : Addr) {y : Value} (hi : ∀ k n, y ≠ .int k n) (hp : ∀ b, y ≠ .pointer (some b)) : Dead P (binOp op t y (.pointer (some a))) := by
  generalize hx : Value.pointer (some a) = x
  unfold binOp
  split <;> first | exact dead_stuck _ | exact dead_unsupported _ | exact absurd rfl h1 | exact absurd rfl h2 | exact absurd rfl (hi _ _) | exact absurd rfl (hp _) | cases hx
theorem dead_movedPointer (t : TypeId) (y : Value) : Dead P (movedPointer t (.pointer none) y) := by
  unfold movedPointer
  simp only
  exact dead_unsafeAdd _ _
theorem r_flat {op : BinOp} (h1 : op ≠ .eql) (h2 : op ≠ .neq) (t : TypeId) {x y : Value} (hx : VR G FS B x x) (hy : VR G FS B y y) (px : ∀ b, x ≠ .pointer (some b)) (py : ∀ b, y ≠ .pointer (some b)) : SemR (G := G) (FS := FS) P (VQ G FS) B (binOp op t x y) (binOp op t x y) := by
  unfold binOp
  split <;> first | exact r_stuck _ _ | exact r_unsupported _ _ | exact absurd rfl h1 | exact absurd rfl h2 | exact r_shift _ _ _ _ _ | exact r_stringOp _ _ _ | exact absurd rfl (px _) | exact absurd rfl (py _) | skip
  · split
    · exact r_stuck _ _
    · split <;> first | exact r_intArith _ _ _ _ | exact r_intDiv _ _ _ _ | exact r_intBits _ _ _ _ | exact r_intCmp _ _ _
  · split
    · exact r_stuck _ _
    · split <;> first | exact r_floatArith _ _ _ _ | exact r_floatCmp _ _ _ _
  · cases hx
  · cases hx with
    | ptr _ => exact absurd rfl (px _)
    | ptrNil =>
      refine rb_underlying fun d hd => ?_
      split <;> first | exact .dead (dead_movedPointer _ _) | exact .dead (dead_movedNumber _ _) | (rw [if_pos rfl]; exact .dead (dead_movedPointer _ _)) | (rw [if_neg (by decide)]; exact .dead (dead_movedNumber _ _))
  · cases hy with
    | ptr _ => exact absurd rfl (py _)
    | ptrNil => exact .dead (dead_movedNumber _ _)
  · cases hx with
    | ptr _ => exact absurd rfl (px _)
    | ptrNil => exact .dead (dead_movedNumber _ _)
theorem r_binOp (hG : P.globals.size ≤ G) {op : BinOp} (h1 : op ≠ .eql) (h2 : op ≠ .neq) (t : TypeId) {x x' y y' : Value} (hx : VR G FS B x x') (hy : VR G FS B y y') : SemR (G := G) (FS := FS) P (VQ G FS) B (binOp op t x y) (binOp op t x' y') := by
  rcases hx.kinds with ⟨rfl, vx, _, px⟩ | ⟨a, a', rfl, rfl, ha⟩ | dx
  · rcases hy.kinds with ⟨rfl, vy, _, py⟩ | ⟨b, b', rfl, rfl, hb⟩ | dy
    · exact r_flat h1 h2 t vx vy px py
    · by_cases hi : ∀ k n, x' ≠ .int k n
      · exact .dead (dead_xp h1 h2 t b hi px)
      · simp only [ne_eq, Classical.not_forall, Classical.not_not] at hi
        obtain ⟨k, n, rfl⟩ := hi
        exact r_ip h1 h2 t hb k n
    · exact .dead (dead_deep h1 h2 t (.inr dy))
  · rcases hy.kinds with ⟨rfl, vy, _, py⟩ | ⟨b, b', rfl, rfl, hb⟩ | dy
    · by_cases hi : ∀ k n, y' ≠ .int k n
      · exact .dead (dead_px h1 h2 t a hi py)
      · simp only [ne_eq, Classical.not_forall, Classical.not_not] at hi
        obtain ⟨k, n, rfl⟩ := hi
        exact r_pi h1 h2 t ha k n
    · exact dead_pp hG h1 h2 t ha hb
    · exact .dead (dead_deep h1 h2 t (.inr dy))
  · exact .dead (dead_deep h1 h2 t (.inl dx))

/-! ### Equality -/
theorem r_eqFloat {t : TypeId} {k : FloatKind} (ht : P.underlying t = some (.float k)) (d : Nat) {x x' y y' : Value} (hx : VR G FS B x x') (hy : VR G FS B y y') : SemR (G := G) (FS := FS) P EqQ B (Op.equalIn (d + 1) t x y) (Op.equalIn (d + 1) t x' y') := by
  unfold Op.equalIn
  refine rb_underlying fun e he => ?_
  obtain rfl : e = .float k := by rw [ht] at he; injection he with he; exact he.symm
  cases hx <;> first | exact r_stuck _ _ | skip
  cases hy <;> first | exact r_stuck _ _ | skip
  simp only
  split
  · exact r_pure rfl
  · exact r_stuck _ _
theorem r_eqSlice {t e : TypeId} (ht : P.underlying t = some (.slice e)) (d : Nat) {x x' y y' : Value} (hx : VR G FS B x x') (hy : VR G FS B y y') : SemR (G := G) (FS := FS) P EqQ B (Op.equalIn (d + 1) t x y) (Op.equalIn (d + 1) t x' y') := by
  unfold Op.equalIn
  refine rb_underlying fun f he => ?_
  obtain rfl : f = .slice e := by rw [ht] at he; injection he with he; exact he.symm
  cases hx <;> first | exact r_stuck _ _ | skip
  all_goals cases hy <;> first | exact r_stuck _ _ | exact r_pure rfl
theorem r_eqInt (hG : P.globals.size ≤ G) {t : TypeId} {k : IntKind} (ht : P.underlying t = some (.int k)) (hc : ∀ i u, P.info? t = some i → i.desc ≠ .named "sync.copyChecker" u) (d : Nat) {x x' y y' : Value} (hx : VR G FS B x x') (hy : VR G FS B y y') : SemR (G := G) (FS := FS) P EqQ B (Op.equalIn (d + 1) t x y) (Op.equalIn (d + 1) t x' y') := by
  unfold Op.equalIn
  refine rb_underlying fun f he => ?_
  obtain rfl : f = .int k := by rw [ht] at he; injection he with he; exact he.symm
  cases hx <;> first | exact r_stuck _ _ | skip
  all_goals cases hy <;> first | exact r_stuck _ _ | exact r_unsupported _ _ | exact r_pure rfl | skip
  · simp only
    split
    · exact r_pure rfl
    · exact r_stuck _ _
  · rename_i n _ _ _
    cases n with
    | ofNat m => cases m with
      | zero => exact r_pure rfl
      | succ m => exact r_unsupported _ _
    | negSucc m => exact r_unsupported _ _
  · rename_i n
    cases n with
    | ofNat m => cases m with
      | zero => exact r_pure rfl
      | succ m => exact r_unsupported _ _
    | negSucc m => exact r_unsupported _ _
  · rename_i ha _ _ hb
    simp only
    refine rb_behindNumber ha fun c c' l hc' => ?_
    refine rb_behindNumber hb fun e e' l' he' => ?_
    simp only
    refine rb_program ?_
    refine .dead ?_
    have h1 : ¬c.block < P.globals.size := by have := hc'.low; omega
    rw [if_neg (by simp [h1])]
    have hi' : ∀ w i w₁, (typeInfo t).run P w = .ok i w₁ → P.info? t = some i := by
      intro w i w₁ hi
      simp only [typeInfo, program, bind, Sem.bind, Sem.run] at hi
      cases h : P.info? t with
      | none => rw [h] at hi; simp [stuck] at hi
      | some j => rw [h] at hi; simp at hi; rw [hi.1]
    refine ⟨fun w v w' hr => ?_, m_bind (m_typeInfo t) fun i => ?_⟩
    · obtain ⟨i, w₁, hi, hr⟩ := run_bind hr
      split at hr
      · rename_i u hu
        exact absurd hu (hc i u (hi' _ _ _ hi))
      · simp [unsupported] at hr
    · split
      · split
        · exact m_pure _
        · exact m_unsupported _
      · exact m_unsupported _
end
end Go.Proofs.Ytgeoffpcmkofkaa
