/- Checks for tame code. -/
import Derived.Test.YtgeoffpcmkofkaaKr
namespace Go.Proofs.Ytgeoffpcmkofkaa
open Go

def atomB : Value → Bool
  | .bool _ | .int _ _ | .float _ _ | .string _ | .pointer none | .slice none _ _ | .nilFunc | .nilIface | .map none | .chan none => true
  | _ => false
def flatB : Value → Bool
  | .agg cs => cs.toList.all atomB
  | .tuple cs => cs.toList.all atomB
  | v => atomB v
section
variable {G : Nat} {FS : FuncId → Prop} {B : BR}
theorem atom_sound {v : Value} (h : atomB v = true) : VR G FS B v v := by
  unfold atomB at h
  split at h
  · exact .bool _
  · exact .int _ _
  · exact .float _ _
  · exact .string _
  · exact .ptrNil
  · exact .sliceNil _ _
  · exact .nilFunc
  · exact .nilIface
  · exact .mapNil
  · exact .chanNil
  · cases h
theorem atoms_sound : ∀ {l : List Value}, l.all atomB = true → VRs G FS B l l
  | [], _ => .nil
  | v :: l, h => by
    simp only [List.all_cons, Bool.and_eq_true] at h
    exact .cons (atom_sound h.1) (atoms_sound h.2)
theorem flat_sound {v : Value} (h : flatB v = true) : VR G FS B v v := by
  unfold flatB at h
  split at h
  · exact .agg (atoms_sound h)
  · exact .tuple (atoms_sound h)
  · exact atom_sound h
end

section
variable (P : Program) (fs : FuncId → Bool)
def operB : Operand → Bool
  | .tmp _ => true
  | .const v => flatB v
  | .global _ => false
  | .func f => fs f
def optB : Option Operand → Bool
  | none => true
  | some x => operB fs x
def ztB (t : TypeId) : Bool := match P.info? t with
  | none => true
  | some i => match i.zero with
    | none => true
    | some v => flatB v
def szB (t : TypeId) : Bool := match P.underlying t with
  | some (.slice e) => ztB P e
  | _ => true
def numB (t : TypeId) : Bool := match P.underlying t with
  | some (.int _) => true
  | some (.float _) => true
  | _ => false
def plainB (t : TypeId) : Bool := match P.info? t with
  | none => true
  | some i => match i.desc with
    | .named n _ => n != "sync.copyChecker"
    | _ => true
def eqSB (t : TypeId) : Bool := match P.underlying t with
  | some (.int _) => plainB P t
  | some (.float _) => true
  | _ => false
def eqTB (t : TypeId) : Bool := match P.underlying t with
  | some (.int _) => plainB P t
  | some (.float _) => true
  | some (.slice _) => true
  | some (.struct fs) => match fs with
    | ⟨[f, g]⟩ => eqSB P f.type && eqSB P g.type
    | _ => false
  | _ => false
def eqOp : BinOp → Bool
  | .eql | .neq => true
  | _ => false
def fieldB (s : TypeId) (f : Nat) : Bool := match P.underlying s with
  | some (.struct fields) => match fields[f]? with
    | some fl => match P.info? fl.type with
      | some i => i.size != 0
      | none => false
    | none => true
  | _ => true
def argB (ts : Array TypeId) : Bool := match ts[0]? with
  | some t => szB P t
  | none => true
def calleeB (c : Call) : Bool := match c.callee with
  | .value f => operB fs f
  | .builtin .append => argB P c.argTypes
  | .builtin .clear => argB P c.argTypes
  | .builtin .cap => true
  | .builtin .len => true
  | _ => false
def opB : Op → Bool
  | .move x | .assign x | .box _ x | .load _ x | .nilCheck x | .unOp _ _ x | .makeInterface _ x | .extract x _ | .panic x => operB fs x
  | .pick c a b => operB fs c && operB fs a && operB fs b
  | .alloc e => ztB P e
  | .buildSlice t _ ps => szB P t && ps.toList.all fun p => operB fs p.2
  | .makeSlice t a x => szB P t && operB fs a && operB fs x
  | .store _ a x | .indexAddr _ a x | .index _ a x => operB fs a && operB fs x
  | .binOp op t x y _ => operB fs x && operB fs y && (!eqOp op || (eqTB P t && !P.eqGuardType P.depth t))
  | .convert s d x => operB fs x && numB P s && numB P d
  | .slice t x lo hi mx => operB fs x && optB fs lo && optB fs hi && mx.isNone && (match P.underlying t with | some (.slice _) => true | _ => false)
  | .fieldAddr s x f => operB fs x && fieldB P s f
  | .call c => c.args.toList.all (operB fs) && calleeB P fs c
  | _ => false
def codeB : Code → Bool
  | .region _ ops _ => ops.toList.all fun o => opB P fs o.op
  | .seq a b => codeB a && codeB b
  | .cond c a b => operB fs c && codeB a && codeB b
  | .block _ b | .loop b | .scope b => codeB b
  | .rangeFunc .. => false
  | _ => true
end

section
variable {G : Nat} {P : Program} {fs : FuncId → Bool}
abbrev FSof (fs : FuncId → Bool) : FuncId → Prop := fun f => fs f = true
theorem oper_sound {x : Operand} (h : operB fs x = true) : OperOK G (FSof fs) x := by
  cases x with
  | tmp t => trivial
  | const v => exact fun B => flat_sound h
  | global g => cases h
  | func f => exact h
theorem opt_sound {x : Option Operand} (h : optB fs x = true) : OptOK G (FSof fs) x := by
  intro y hy
  subst hy
  exact oper_sound h
theorem zt_sound {t : TypeId} (h : ztB P t = true) : ZT G (FSof fs) P t := by
  intro B i v hi hv
  simp only [ztB, hi, hv] at h
  exact flat_sound h
theorem sz_sound {t : TypeId} (h : szB P t = true) : SZ G (FSof fs) P t := by
  intro e he
  simp only [szB, he] at h
  exact zt_sound h
theorem eqS_sound {t : TypeId} (h : eqSB P t = true) : EqS P t := by
  unfold eqSB at h
  split at h
  · rename_i k hk
    refine .int k hk fun i u hi hd => ?_
    simp [plainB, hi, hd] at h
  · rename_i k hk; exact .float k hk
  · cases h
theorem num_sound {t : TypeId} (h : numB P t = true) : NumT P t := by
  unfold numB at h
  split at h
  · rename_i k hk; exact ⟨_, hk, .inl ⟨_, rfl⟩⟩
  · rename_i k hk; exact ⟨_, hk, .inr ⟨_, rfl⟩⟩
  · cases h
theorem eqT_sound {t : TypeId} (h : eqTB P t = true) : EqT P t := by
  unfold eqTB at h
  split at h
  · rename_i k hk
    refine .int k hk fun i u hi hd => ?_
    simp [plainB, hi, hd] at h
  · rename_i k hk; exact .float k hk
  · rename_i k hk; exact .slice k hk
  · rename_i fs' hk
    split at h
    · rename_i f g
      simp only [Bool.and_eq_true] at h
      exact .two f g hk (eqS_sound h.1) (eqS_sound h.2)
    · cases h
  · cases h
theorem field_sound {s : TypeId} {f : Nat} (h : fieldB P s f = true) : ∀ fields fl, P.underlying s = some (.struct fields) → fields[f]? = some fl → ∃ i, P.info? fl.type = some i ∧ i.size ≠ 0 := by
  intro fields fl h1 h2
  simp only [fieldB, h1, h2] at h
  split at h
  · rename_i i hi; exact ⟨i, hi, by simpa using h⟩
  · cases h
theorem arg_sound {ts : Array TypeId} (h : argB P ts = true) : ∀ t, ts[0]? = some t → SZ G (FSof fs) P t := by
  intro t ht
  simp only [argB, ht] at h
  exact sz_sound h
theorem op_sound {o : Op} (h : opB P fs o = true) : OpTame G (FSof fs) P o := by
  cases o <;> simp only [opB, Bool.and_eq_true, Bool.false_eq_true] at h <;> try exact oper_sound h
  case pick => exact ⟨oper_sound h.1.1, oper_sound h.1.2, oper_sound h.2⟩
  case alloc => exact zt_sound h
  case buildSlice => exact ⟨sz_sound h.1, fun p hp => oper_sound (List.all_eq_true.1 h.2 p hp)⟩
  case makeSlice => exact ⟨sz_sound h.1.1, oper_sound h.1.2, oper_sound h.2⟩
  case store => exact ⟨oper_sound h.1, oper_sound h.2⟩
  case indexAddr => exact ⟨oper_sound h.1, oper_sound h.2⟩
  case index => exact ⟨oper_sound h.1, oper_sound h.2⟩
  case binOp op t x y u =>
    refine ⟨oper_sound h.1.1, oper_sound h.1.2, ?_⟩
    have h2 := h.2
    by_cases he : eqOp op = true
    case neg =>
      refine .inl ⟨fun e => he (by rw [e]; rfl), fun e => he (by rw [e]; rfl)⟩
    rw [he] at h2
    cases op <;> first | (cases he; done) | skip
    all_goals
      simp only [Bool.not_true, Bool.false_or, Bool.and_eq_true, Bool.not_eq_true'] at h2
    · exact .inr ⟨.inl rfl, eqT_sound h2.1, h2.2⟩
    · exact .inr ⟨.inr rfl, eqT_sound h2.1, h2.2⟩
  case convert => exact ⟨oper_sound h.1.1, num_sound h.1.2, num_sound h.2⟩
  case slice t x lo hi mx =>
    obtain ⟨⟨⟨⟨h1, h2⟩, h3⟩, h4⟩, h5⟩ := h
    refine ⟨oper_sound h1, opt_sound h2, opt_sound h3, by simpa using h4, ?_⟩
    split at h5
    · rename_i e he; exact ⟨e, he⟩
    · cases h5
  case fieldAddr => exact ⟨oper_sound h.1, field_sound h.2⟩
  case call c =>
    refine ⟨fun o ho => oper_sound (List.all_eq_true.1 h.1 o ho), ?_⟩
    have h2 := h.2
    unfold calleeB at h2
    split at h2
    · rename_i f hf; rw [hf]; exact oper_sound h2
    · rename_i hf; rw [hf]; exact .inl ⟨rfl, arg_sound h2⟩
    · rename_i hf; rw [hf]; exact .inr (.inr (.inr ⟨rfl, arg_sound h2⟩))
    · rename_i hf; rw [hf]; exact .inr (.inl rfl)
    · rename_i hf; rw [hf]; exact .inr (.inr (.inl rfl))
    · cases h2
theorem code_sound : ∀ {c : Code}, codeB P fs c = true → CodeT G (FSof fs) P c
  | .region _ ops _, h => fun o ho => op_sound (List.all_eq_true.1 (by simpa only [codeB] using h) o ho)
  | .seq a b, h => by
    simp only [codeB, Bool.and_eq_true] at h
    exact ⟨code_sound h.1, code_sound h.2⟩
  | .cond c a b, h => by
    simp only [codeB, Bool.and_eq_true] at h
    exact ⟨oper_sound h.1.1, code_sound h.1.2, code_sound h.2⟩
  | .block _ b, h => code_sound (c := b) (by simpa only [codeB] using h)
  | .loop b, h => code_sound (c := b) (by simpa only [codeB] using h)
  | .scope b, h => code_sound (c := b) (by simpa only [codeB] using h)
  | .rangeFunc .., h => by simp [codeB] at h
  | .skip, _ | .exit _, _ | .label _, _ | .goto _, _ | .ret, _ | .refuse _, _ => trivial
end
end Go.Proofs.Ytgeoffpcmkofkaa
