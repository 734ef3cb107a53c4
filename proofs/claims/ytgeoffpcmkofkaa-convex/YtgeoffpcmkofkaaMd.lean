/- Operations of one alone: all of them. -/
import Derived.Test.YtgeoffpcmkofkaaMc
namespace Go.Proofs.Ytgeoffpcmkofkaa
open Go Go.Conc

section
variable {P : Program} {α β : Type}
theorem pt_underlying' (t : TypeId) : Plain P (fun d => P.underlying t = some d) (underlying t) := by
  unfold underlying
  refine p_bind (Q' := fun p => p = P) (.program (.pure rfl)) fun p hp => ?_
  subst hp
  cases h : p.underlying t with
  | some d => exact .pure rfl
  | none => exact pt_stuck _
theorem pt_convert {s d : TypeId} (hs : NumT P s) (hd : NumT P d) (x : Value) : PT P (convert s d x) := by
  obtain ⟨ds, h1, h2⟩ := hs
  obtain ⟨dd, h3, h4⟩ := hd
  unfold convert
  refine p_bind (pt_underlying' s) fun a ha => ?_
  refine p_bind (pt_underlying' d) fun b hb => ?_
  rw [h1] at ha
  rw [h3] at hb
  injection ha with ha
  injection hb with hb
  subst ha hb
  have pi : ∀ k n, PT P (Conv.intToInt k n) := fun _ _ => .pure trivial
  have pf : ∀ k n, PT P (Conv.intToFloat k n) := fun _ _ => .pure trivial
  rcases h2 with ⟨k, rfl⟩ | ⟨k, rfl⟩ <;> rcases h4 with ⟨k', rfl⟩ | ⟨k', rfl⟩ <;> cases x
  all_goals first | exact pi _ _ | exact pf _ _ | exact pt_f2i _ _ _ | exact pt_f2f _ _ _ | exact pt_unsupported _ | skip
  all_goals rename_i a
  all_goals cases a
  all_goals exact pt_unsupported _
/-- What comes of an operation. -/
def NextP (P : Program) (FS : FuncId → Prop) (n : Next) : Prop := (∃ v, n = .value v) ∨ n = .skip ∨ ∃ f xs, n = .enter f xs ∧ FS f ∧ ∃ fn c, P.funcs[f]? = some fn ∧ fn.body = some c
/-- A function that is called outright. -/
structure FuncP (P : Program) (f : FuncId) : Prop where
  there : ∃ fn, P.funcs[f]? = some fn ∧ (fn.name == "runtime.NumGoroutine") = false ∧ (fn.body.isNone = false ∨ (fn.body.isNone = true ∧ Extern.findNext fn = none ∧ ∃ e, Extern.find fn = some e ∧ ∀ xs, PT P (e xs)))
def OpP (P : Program) (FS : FuncId → Prop) : Op → Prop
  | .move _ | .assign _ | .pick _ _ _ | .alloc _ | .box _ _ | .build _ _ | .buildSlice _ _ _ | .load _ _ | .store _ _ _ | .unOp _ _ _ | .makeInterface _ _ | .extract _ _ | .panic _ | .makeSlice _ _ _ | .indexAddr _ _ _ | .index _ _ _ | .binOp _ _ _ _ _ | .slice _ _ _ _ _ | .fieldAddr _ _ _ | .lookup _ _ _ _ | .makeMap _ _ | .mapUpdate _ _ _ _ => True
  | .convert s d _ => NumT P s ∧ NumT P d
  | .call c => match c.callee with
    | .value (.func f) => FS f
    | .builtin b => b = .append ∨ b = .cap ∨ b = .len ∨ b = .clear ∨ b = .copy ∨ b = .min
    | _ => False
  | _ => False
theorem pv {FS : FuncId → Prop} {s : Sem Value} (h : PT P s) : Plain P (NextP P FS) (do pure (.value (← s))) := p_bnd h fun v => .pure (.inl ⟨v, rfl⟩)
theorem pu {FS : FuncId → Prop} {s : Sem Unit} (h : PT P s) : Plain P (NextP P FS) (do s; pure .skip) := p_bnd h fun _ => .pure (.inr (.inl rfl))
theorem p_callFunc {FS : FuncId → Prop} {f : FuncId} (hf : FS f) (hF : FuncP P f) (xs : Array Value) : Plain P (NextP P FS) (callFunc f xs) := by
  obtain ⟨fn, h1, h2, h3⟩ := hF.there
  unfold callFunc
  refine p_bind (Q' := fun p => p = P) (.program (.pure rfl)) fun p hp => ?_
  rw [hp]
  simp only [h1, h2, Bool.false_eq_true, if_false]
  rcases h3 with h3 | ⟨h3, h4, e, h5, h6⟩
  · simp only [h3, Bool.false_eq_true, if_false]
    cases hb : fn.body with
    | none => rw [hb] at h3; cases h3
    | some c => exact .pure (.inr (.inr ⟨f, xs, rfl, hf, fn, c, h1, hb⟩))
  · simp only [h3, if_true, h4, h5]
    exact p_bnd (pt_mark f) fun _ => pv (h6 xs)
theorem p_execOp {FS : FuncId → Prop} (HF : ∀ f, FS f → FuncP P f) {ρ : Operand → Value} (hρ : ∀ f, ρ (.func f) = .func (.func f) #[] #[]) {o : Oper} (ho : OpP P FS o.op) : Plain P (NextP P FS) (execOp ρ o) := by
  cases h : o.op <;> rw [h] at ho <;> (try exact ho.elim)
  all_goals (unfold execOp; simp only [h])
  case move => exact .pure (.inl ⟨_, rfl⟩)
  case assign => exact .pure (.inl ⟨_, rfl⟩)
  case pick => exact p_bnd (pt_asBool _) fun _ => .pure (.inl ⟨_, rfl⟩)
  case alloc => exact pv (pt_alloc _ _ _)
  case box => exact pv (pt_box _ _)
  case build => exact pv (pt_build _ _)
  case buildSlice => exact pv (pt_buildSlice _ _ _)
  case load => exact pv (pt_loadAt _ _)
  case store => exact pu (pt_storeAt _ _ _)
  case binOp => exact pv (p_bnd (pt_eqGuard _ _ _ _ _ _) fun _ => pt_binOp _ _ _ _)
  case unOp => exact pv (pt_unary _ _)
  case convert => exact pv (pt_convert ho.1 ho.2 _)
  case makeInterface => exact pv (pt_mkIface _ _)
  case makeSlice => exact pv (pt_makeSlice _ _ _)
  case slice => exact pv (pt_sliceAt _ _ _ _ _)
  case fieldAddr => exact pv (pt_fieldAt _ _ _)
  case indexAddr => exact pv (pt_indexAt _ _ _)
  case index => exact pv (pt_index _ _ _)
  case extract => exact pv (pt_extract _ _)
  case lookup => exact pv (pt_lookup _ _ _ _)
  case makeMap => exact pv (pt_makeMap _ _)
  case mapUpdate => exact pu (pt_mapUpdate _ _ _ _)
  case panic x => exact .dead (dead_bind (dead_panic _))
  case call c =>
    unfold resolve
    simp only [OpP] at ho
    cases hc : c.callee with
    | invoke r n => rw [hc] at ho; exact ho.elim
    | builtin b =>
      rw [hc] at ho
      simp only
      rcases ho with rfl | rfl | rfl | rfl | rfl | rfl
      · exact pv (pt_append _ _ _)
      · exact pv (pt_cap _ _ _)
      · exact pv (pt_len _ _ _)
      · exact pv (pt_clear _ _ _)
      · exact pv (pt_copy _ _ _)
      · exact pv (pt_min _ _ _)
    | value x =>
      rw [hc] at ho
      cases x <;> (try exact ho.elim)
      rename_i f
      simp only [hρ]
      exact p_callFunc ho (HF f ho) _
end
end Go.Proofs.Ytgeoffpcmkofkaa
