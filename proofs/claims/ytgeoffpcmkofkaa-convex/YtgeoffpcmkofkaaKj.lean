/- One operation is matched. -/
import Derived.Test.YtgeoffpcmkofkaaKi
namespace Go.Proofs.Ytgeoffpcmkofkaa
open Go

section
variable (G : Nat) (FS : FuncId → Prop) (P : Program)
inductive NextR (B : BR) : Next → Next → Prop
  | value {v v' : Value} : VR G FS B v v' → NextR B (.value v) (.value v')
  | skip : NextR B .skip .skip
  | enter (f : FuncId) {vas vas' : Array Value} : FS f → VRs G FS B vas.toList vas'.toList → NextR B (.enter f vas) (.enter f vas')
structure OpenOK : Prop where
  glob : P.globals.size ≤ G
  funcs : ∀ f, FS f → ∀ fn, P.funcs[f]? = some fn → (fn.name == "runtime.NumGoroutine") = false ∧ (fn.body.isNone = false ∨ (fn.body.isNone = true ∧ Extern.findNext fn = none ∧ ∃ e, Extern.find fn = some e ∧ ∀ B vas vas', VRs G FS B vas.toList vas'.toList → SemR (G := G) (FS := FS) P (VQ G FS) B (e vas) (e vas')))
def OperOK : Operand → Prop
  | .tmp _ => True
  | .const v => ∀ B, VR G FS B v v
  | .global _ => False
  | .func f => FS f
def OptOK (o : Option Operand) : Prop := ∀ x, o = some x → OperOK G FS x
def NumT (t : TypeId) : Prop := ∃ d, P.underlying t = some d ∧ ((∃ k, d = .int k) ∨ ∃ k, d = .float k)
def OpTame : Op → Prop
  | .move x | .assign x | .box _ x | .load _ x | .nilCheck x | .unOp _ _ x | .makeInterface _ x | .extract x _ | .panic x => OperOK G FS x
  | .pick c a b => OperOK G FS c ∧ OperOK G FS a ∧ OperOK G FS b
  | .alloc e => ZT G FS P e
  | .buildSlice t _ ps => SZ G FS P t ∧ ∀ p ∈ ps.toList, OperOK G FS p.2
  | .makeSlice t a x => SZ G FS P t ∧ OperOK G FS a ∧ OperOK G FS x
  | .store _ a x | .indexAddr _ a x | .index _ a x => OperOK G FS a ∧ OperOK G FS x
  | .binOp op t x y _ => OperOK G FS x ∧ OperOK G FS y ∧ ((op ≠ .eql ∧ op ≠ .neq) ∨ ((op = .eql ∨ op = .neq) ∧ EqT P t ∧ P.eqGuardType P.depth t = false))
  | .convert s d x => OperOK G FS x ∧ NumT P s ∧ NumT P d
  | .slice t x lo hi mx => OperOK G FS x ∧ OptOK G FS lo ∧ OptOK G FS hi ∧ mx = none ∧ ∃ e, P.underlying t = some (.slice e)
  | .fieldAddr s x f => OperOK G FS x ∧ ∀ fields fl, P.underlying s = some (.struct fields) → fields[f]? = some fl → ∃ i, P.info? fl.type = some i ∧ i.size ≠ 0
  | .call c => (∀ o ∈ c.args.toList, OperOK G FS o) ∧ match c.callee with
    | .value f => OperOK G FS f
    | .builtin b => (b = .append ∧ ∀ t, c.argTypes[0]? = some t → SZ G FS P t) ∨ b = .cap ∨ b = .len ∨ (b = .clear ∧ ∀ t, c.argTypes[0]? = some t → SZ G FS P t)
    | .invoke .. => False
  | _ => False
end

section
variable {G : Nat} {FS : FuncId → Prop} {P : Program} {B : BR}
abbrev NQ (G : Nat) (FS : FuncId → Prop) : BR → Next → Next → Prop := fun B v v' => NextR G FS B v v'
theorem r_v {s s' : Sem Value} (h : SemR (G := G) (FS := FS) P (VQ G FS) B s s') : SemR (G := G) (FS := FS) P (NQ G FS) B (do pure (.value (← s))) (do pure (.value (← s'))) := r_bind h fun _ _ _ _ h => r_pure (.value h)
theorem r_u {s s' : Sem Unit} (h : SemR (G := G) (FS := FS) P EqQ B s s') : SemR (G := G) (FS := FS) P (NQ G FS) B (do s; pure .skip) (do s'; pure .skip) := r_bind h fun _ _ _ _ _ => r_pure .skip
theorem r_callFunc (H : OpenOK G FS P) {f : FuncId} (hf : FS f) {vas vas' : Array Value} (ha : VRs G FS B vas.toList vas'.toList) : SemR (G := G) (FS := FS) P (NQ G FS) B (callFunc f vas) (callFunc f vas') := by
  unfold callFunc
  refine rb_program ?_
  cases hfn : P.funcs[f]? with
  | none => exact r_stuck _ _
  | some fn =>
    obtain ⟨h1, h2⟩ := H.funcs f hf fn hfn
    simp only [h1, Bool.false_eq_true, if_false]
    rcases h2 with h2 | ⟨h2, h3, e, h4, h5⟩
    · simp only [h2, Bool.false_eq_true, if_false]
      exact r_pure (.enter f hf ha)
    · simp only [h2, if_true, h3, h4]
      exact r_bind (r_mark (.inr ⟨f, rfl⟩)) fun B1 b1 _ _ _ => r_v (h5 B1 _ _ (ha.mono b1))
theorem r_nilCheck {x x' : Value} (hx : VR G FS B x x') (ρ ρ' : Operand → Value) (o : Oper) (y : Operand) (ho : o.op = .nilCheck y) (h1 : ρ y = x) (h2 : ρ' y = x') : SemR (G := G) (FS := FS) P (NQ G FS) B (execOp ρ o) (execOp ρ' o) := by
  unfold execOp
  simp only [ho, h1, h2]
  cases hx <;> first | exact r_runtimePanic _ _ | (refine r_pure (.value ?_); constructor; assumption) | (refine r_pure (.value ?_); constructor)
theorem m_panicnil : MildT P Instr.panicnil := by
  refine m_bind (m_sys _) fun r => ?_
  split
  · exact m_bind m_program fun _ => m_pure _
  · exact m_stuck _
theorem dead_panic (v : Value) : Dead P (Instr.panic v) := by
  unfold Instr.panic
  split
  · exact dead_goPanic _
  · refine dead_then m_panicnil fun i => ?_
    split
    · exact dead_goPanic _
    · exact dead_runtimePanic _
  · exact dead_stuck _
theorem rho_list {ρ ρ' : Operand → Value} : ∀ (l : List Operand), (∀ o ∈ l, VR G FS B (ρ o) (ρ' o)) → VRs G FS B (l.map ρ) (l.map ρ')
  | [], _ => .nil
  | o :: l, h => .cons (h o (by simp)) (rho_list l fun x hx => h x (by simp [hx]))
theorem rho_pairs {ρ ρ' : Operand → Value} : ∀ (l : List (Nat × Operand)), (∀ o ∈ l, VR G FS B (ρ o.2) (ρ' o.2)) → PRs G FS B (l.map fun (i, x) => (i, ρ x)) (l.map fun (i, x) => (i, ρ' x))
  | [], _ => .nil
  | o :: l, h => .cons (h o (by simp)) (rho_pairs l fun x hx => h x (by simp [hx]))
theorem rho_opt {ρ ρ' : Operand → Value} (o : Option Operand) (h : ∀ x, o = some x → VR G FS B (ρ x) (ρ' x)) : OV G FS B (o.map ρ) (o.map ρ') := by
  cases o with
  | none => exact trivial
  | some x => exact h x rfl
theorem r_execOp (H : OpenOK G FS P) {ρ ρ' : Operand → Value} (hρ : ∀ x, OperOK G FS x → VR G FS B (ρ x) (ρ' x)) {o : Oper} (ho : OpTame G FS P o.op) : SemR (G := G) (FS := FS) P (NQ G FS) B (execOp ρ o) (execOp ρ' o) := by
  cases h : o.op <;> rw [h] at ho <;> (try exact ho.elim)
  case nilCheck x => exact r_nilCheck (hρ x ho) ρ ρ' o x h rfl rfl
  all_goals (unfold execOp; simp only [h])
  case move x => exact r_pure (.value (hρ x ho))
  case assign x => exact r_pure (.value (hρ x ho))
  case pick c a b =>
    refine r_bind (r_asBool (hρ c ho.1)) fun B1 h1 b b' hb => ?_
    obtain rfl : b' = b := hb
    cases b'
    · exact r_pure (.value ((hρ _ ho.2.2).mono h1))
    · exact r_pure (.value ((hρ _ ho.2.1).mono h1))
  case alloc e => exact r_v (r_alloc ho)
  case box e x => exact r_v (r_box e (hρ x ho))
  case buildSlice t l ps =>
    refine r_v (r_buildSlice ho.1 l ?_)
    simp only [Array.toList_map]
    exact rho_pairs _ fun p hp => hρ _ (ho.2 p hp)
  case load t a => exact r_v (r_loadAt t (hρ a ho))
  case store t a x => exact r_u (r_storeAt t (hρ a ho.1) (hρ x ho.2))
  case binOp op t x y u =>
    obtain ⟨hx, hy, hh⟩ := ho
    refine r_v ?_
    rcases hh with ⟨h1, h2⟩ | ⟨h1, h2, h3⟩
    · exact r_bind (r_noGuard h1 h2 t x y _ _ _ _) fun B1 b1 _ _ _ => r_binOp H.glob h1 h2 t ((hρ x hx).mono b1) ((hρ y hy).mono b1)
    · exact r_bind (r_eqGuard h1 h2 h3 x y (hρ x hx) (hρ y hy)) fun B1 b1 _ _ _ => r_binEq H.glob h1 h2 ((hρ x hx).mono b1) ((hρ y hy).mono b1)
  case unOp op t x => exact r_v (r_unary op (hρ x ho))
  case convert s d x =>
    obtain ⟨hx, ⟨ds, h1, h2⟩, ⟨dd, h3, h4⟩⟩ := ho
    exact r_v (r_convert h1 h3 h2 h4 (hρ x hx))
  case makeInterface t x => exact r_v (r_makeInterface t (hρ x ho))
  case makeSlice t a x => exact r_v (r_makeSlice ho.1 (hρ a ho.2.1) (hρ x ho.2.2))
  case slice t x lo hi mx =>
    obtain ⟨hx, hl, hh, rfl, e, he⟩ := ho
    exact r_v (r_sliceAt t he (hρ x hx) (rho_opt lo fun y hy => hρ y (hl y hy)) (rho_opt hi fun y hy => hρ y (hh y hy)))
  case fieldAddr s x f => exact r_v (r_fieldAt s (hρ x ho.1) f ho.2)
  case indexAddr t x i => exact r_v (r_indexAt t (hρ x ho.1) (hρ i ho.2))
  case index t x i => exact r_v (r_index t (hρ x ho.1) (hρ i ho.2))
  case extract x i => exact r_v (r_extract (hρ x ho) i)
  case panic x => exact .dead (dead_bind (dead_panic _))
  case call c =>
    have hargs : VRs G FS B (c.args.map ρ).toList (c.args.map ρ').toList := by
      simp only [Array.toList_map]
      exact rho_list _ fun p hp => hρ _ (ho.1 p hp)
    unfold resolve
    have ho2 := ho.2
    cases hc : c.callee with
    | invoke r n => rw [hc] at ho2; exact ho2.elim
    | builtin b =>
      rw [hc] at ho2
      simp only
      refine rb_pure ?_
      rcases ho2 with ⟨rfl, hz⟩ | rfl | rfl | ⟨rfl, hz⟩
      · exact r_v (r_append hz _ hargs)
      · exact r_v (r_cap _ _ hargs)
      · exact r_v (r_len _ _ hargs)
      · exact r_v (r_clear hz _ hargs)
    | value f =>
      rw [hc] at ho2
      simp only
      have hf := hρ f ho2
      revert hf
      generalize ρ f = v
      generalize ρ' f = v'
      intro hf
      cases hf <;> first | exact r_stuckBind _ _ _ | skip
      case nilFunc => exact r_runtimePanic .nilDeref _
      rename_i g hg
      refine rb_pure ?_
      refine r_callFunc H hg ?_
      simpa using hargs
end
end Go.Proofs.Ytgeoffpcmkofkaa
