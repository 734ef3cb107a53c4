/- Ks; Kt; Ku; Kv; Kw; Kx; Ky: texts laid into one. -/
import Derived.Test.YtgeoffpcmkofkaaQal
import Derived.Test.YtgeoffpcmkofkaaProg
import Derived.Conc.Beside
import Derived.Conc.CrowdTrace
import Derived.Conc.CrowdComm
/- Checks for tame code. -/
namespace Go.Proofs.Ytgeoffpcmkofkaa
open Go

def atomB : Value → Bool
  | .bool _ | .int _ _ | .float _ _ | .string _ | .pointer none | .slice none _ _ | .nilFunc | .nilIface | .map none | .chan none => true
  | _ => false
def flatB : Value → Bool
  | .agg cs => cs.toList.all atomB
  | .tuple cs => cs.toList.all atomB
  | v => atomB v
section
variable {G : Nat} {FS : FuncId → Prop} {B : BR}
theorem atom_sound {v : Value} (h : atomB v = true) : VR G FS B v v := by
  unfold atomB at h
  split at h
  · exact .bool _
  · exact .int _ _
  · exact .float _ _
  · exact .string _
  · exact .ptrNil
  · exact .sliceNil _ _
  · exact .nilFunc
  · exact .nilIface
  · exact .mapNil
  · exact .chanNil
  · cases h
theorem atoms_sound : ∀ {l : List Value}, l.all atomB = true → VRs G FS B l l
  | [], _ => .nil
  | v :: l, h => by
    simp only [List.all_cons, Bool.and_eq_true] at h
    exact .cons (atom_sound h.1) (atoms_sound h.2)
theorem flat_sound {v : Value} (h : flatB v = true) : VR G FS B v v := by
  unfold flatB at h
  split at h
  · exact .agg (atoms_sound h)
  · exact .tuple (atoms_sound h)
  · exact atom_sound h
end

section
variable (P : Program) (fs : FuncId → Bool)
def operB : Operand → Bool
  | .tmp _ => true
  | .const v => flatB v
  | .global _ => false
  | .func f => fs f
def optB : Option Operand → Bool
  | none => true
  | some x => operB fs x
def ztB (t : TypeId) : Bool := match P.info? t with
  | none => true
  | some i => match i.zero with
    | none => true
    | some v => flatB v
def szB (t : TypeId) : Bool := match P.underlying t with
  | some (.slice e) => ztB P e
  | _ => true
def numB (t : TypeId) : Bool := match P.underlying t with
  | some (.int _) => true
  | some (.float _) => true
  | _ => false
def plainB (t : TypeId) : Bool := match P.info? t with
  | none => true
  | some i => match i.desc with
    | .named n _ => n != "sync.copyChecker"
    | _ => true
def eqSB (t : TypeId) : Bool := match P.underlying t with
  | some (.int _) => plainB P t
  | some (.float _) => true
  | _ => false
def eqTB (t : TypeId) : Bool := match P.underlying t with
  | some (.int _) => plainB P t
  | some (.float _) => true
  | some (.slice _) => true
  | some (.struct fs) => match fs with
    | ⟨[f, g]⟩ => eqSB P f.type && eqSB P g.type
    | _ => false
  | _ => false
def eqOp : BinOp → Bool
  | .eql | .neq => true
  | _ => false
def fieldB (s : TypeId) (f : Nat) : Bool := match P.underlying s with
  | some (.struct fields) => match fields[f]? with
    | some fl => match P.info? fl.type with
      | some i => i.size != 0
      | none => false
    | none => true
  | _ => true
def argB (ts : Array TypeId) : Bool := match ts[0]? with
  | some t => szB P t
  | none => true
def calleeB (c : Call) : Bool := match c.callee with
  | .value f => operB fs f
  | .builtin .append => argB P c.argTypes
  | .builtin .clear => argB P c.argTypes
  | .builtin .cap => true
  | .builtin .len => true
  | _ => false
def opB : Op → Bool
  | .move x | .assign x | .box _ x | .load _ x | .nilCheck x | .unOp _ _ x | .makeInterface _ x | .extract x _ | .panic x => operB fs x
  | .pick c a b => operB fs c && operB fs a && operB fs b
  | .alloc e => ztB P e
  | .buildSlice t _ ps => szB P t && ps.toList.all fun p => operB fs p.2
  | .makeSlice t a x => szB P t && operB fs a && operB fs x
  | .store _ a x | .indexAddr _ a x | .index _ a x => operB fs a && operB fs x
  | .binOp op t x y _ => operB fs x && operB fs y && (!eqOp op || (eqTB P t && !P.eqGuardType P.depth t))
  | .convert s d x => operB fs x && numB P s && numB P d
  | .slice t x lo hi mx => operB fs x && optB fs lo && optB fs hi && mx.isNone && (match P.underlying t with | some (.slice _) => true | _ => false)
  | .fieldAddr s x f => operB fs x && fieldB P s f
  | .call c => c.args.toList.all (operB fs) && calleeB P fs c
  | _ => false
def codeB : Code → Bool
  | .region _ ops _ => ops.toList.all fun o => opB P fs o.op
  | .seq a b => codeB a && codeB b
  | .cond c a b => operB fs c && codeB a && codeB b
  | .block _ b | .loop b | .scope b => codeB b
  | .rangeFunc .. => false
  | _ => true
end

section
variable {G : Nat} {P : Program} {fs : FuncId → Bool}
abbrev FSof (fs : FuncId → Bool) : FuncId → Prop := fun f => fs f = true
theorem oper_sound {x : Operand} (h : operB fs x = true) : OperOK G (FSof fs) x := by
  cases x with
  | tmp t => trivial
  | const v => exact fun B => flat_sound h
  | global g => cases h
  | func f => exact h
theorem opt_sound {x : Option Operand} (h : optB fs x = true) : OptOK G (FSof fs) x := by
  intro y hy
  subst hy
  exact oper_sound h
theorem zt_sound {t : TypeId} (h : ztB P t = true) : ZT G (FSof fs) P t := by
  intro B i v hi hv
  simp only [ztB, hi, hv] at h
  exact flat_sound h
theorem sz_sound {t : TypeId} (h : szB P t = true) : SZ G (FSof fs) P t := by
  intro e he
  simp only [szB, he] at h
  exact zt_sound h
theorem eqS_sound {t : TypeId} (h : eqSB P t = true) : EqS P t := by
  unfold eqSB at h
  split at h
  · rename_i k hk
    refine .int k hk fun i u hi hd => ?_
    simp [plainB, hi, hd] at h
  · rename_i k hk; exact .float k hk
  · cases h
theorem num_sound {t : TypeId} (h : numB P t = true) : NumT P t := by
  unfold numB at h
  split at h
  · rename_i k hk; exact ⟨_, hk, .inl ⟨_, rfl⟩⟩
  · rename_i k hk; exact ⟨_, hk, .inr ⟨_, rfl⟩⟩
  · cases h
theorem eqT_sound {t : TypeId} (h : eqTB P t = true) : EqT P t := by
  unfold eqTB at h
  split at h
  · rename_i k hk
    refine .int k hk fun i u hi hd => ?_
    simp [plainB, hi, hd] at h
  · rename_i k hk; exact .float k hk
  · rename_i k hk; exact .slice k hk
  · rename_i fs' hk
    split at h
    · rename_i f g
      simp only [Bool.and_eq_true] at h
      exact .two f g hk (eqS_sound h.1) (eqS_sound h.2)
    · cases h
  · cases h
theorem field_sound {s : TypeId} {f : Nat} (h : fieldB P s f = true) : ∀ fields fl, P.underlying s = some (.struct fields) → fields[f]? = some fl → ∃ i, P.info? fl.type = some i ∧ i.size ≠ 0 := by
  intro fields fl h1 h2
  simp only [fieldB, h1, h2] at h
  split at h
  · rename_i i hi; exact ⟨i, hi, by simpa using h⟩
  · cases h
theorem arg_sound {ts : Array TypeId} (h : argB P ts = true) : ∀ t, ts[0]? = some t → SZ G (FSof fs) P t := by
  intro t ht
  simp only [argB, ht] at h
  exact sz_sound h
theorem op_sound {o : Op} (h : opB P fs o = true) : OpTame G (FSof fs) P o := by
  cases o <;> simp only [opB, Bool.and_eq_true, Bool.false_eq_true] at h <;> try exact oper_sound h
  case pick => exact ⟨oper_sound h.1.1, oper_sound h.1.2, oper_sound h.2⟩
  case alloc => exact zt_sound h
  case buildSlice => exact ⟨sz_sound h.1, fun p hp => oper_sound (List.all_eq_true.1 h.2 p hp)⟩
  case makeSlice => exact ⟨sz_sound h.1.1, oper_sound h.1.2, oper_sound h.2⟩
  case store => exact ⟨oper_sound h.1, oper_sound h.2⟩
  case indexAddr => exact ⟨oper_sound h.1, oper_sound h.2⟩
  case index => exact ⟨oper_sound h.1, oper_sound h.2⟩
  case binOp op t x y u =>
    refine ⟨oper_sound h.1.1, oper_sound h.1.2, ?_⟩
    have h2 := h.2
    by_cases he : eqOp op = true
    case neg =>
      refine .inl ⟨fun e => he (by rw [e]; rfl), fun e => he (by rw [e]; rfl)⟩
    rw [he] at h2
    cases op <;> first | (cases he; done) | skip
    all_goals
      simp only [Bool.not_true, Bool.false_or, Bool.and_eq_true, Bool.not_eq_true'] at h2
    · exact .inr ⟨.inl rfl, eqT_sound h2.1, h2.2⟩
    · exact .inr ⟨.inr rfl, eqT_sound h2.1, h2.2⟩
  case convert => exact ⟨oper_sound h.1.1, num_sound h.1.2, num_sound h.2⟩
  case slice t x lo hi mx =>
    obtain ⟨⟨⟨⟨h1, h2⟩, h3⟩, h4⟩, h5⟩ := h
    refine ⟨oper_sound h1, opt_sound h2, opt_sound h3, by simpa using h4, ?_⟩
    split at h5
    · rename_i e he; exact ⟨e, he⟩
    · cases h5
  case fieldAddr => exact ⟨oper_sound h.1, field_sound h.2⟩
  case call c =>
    refine ⟨fun o ho => oper_sound (List.all_eq_true.1 h.1 o ho), ?_⟩
    have h2 := h.2
    unfold calleeB at h2
    split at h2
    · rename_i f hf; rw [hf]; exact oper_sound h2
    · rename_i hf; rw [hf]; exact .inl ⟨rfl, arg_sound h2⟩
    · rename_i hf; rw [hf]; exact .inr (.inr (.inr ⟨rfl, arg_sound h2⟩))
    · rename_i hf; rw [hf]; exact .inr (.inl rfl)
    · rename_i hf; rw [hf]; exact .inr (.inr (.inl rfl))
    · cases h2
theorem code_sound : ∀ {c : Code}, codeB P fs c = true → CodeT G (FSof fs) P c
  | .region _ ops _, h => fun o ho => op_sound (List.all_eq_true.1 (by simpa only [codeB] using h) o ho)
  | .seq a b, h => by
    simp only [codeB, Bool.and_eq_true] at h
    exact ⟨code_sound h.1, code_sound h.2⟩
  | .cond c a b, h => by
    simp only [codeB, Bool.and_eq_true] at h
    exact ⟨oper_sound h.1.1, code_sound h.1.2, code_sound h.2⟩
  | .block _ b, h => code_sound (c := b) (by simpa only [codeB] using h)
  | .loop b, h => code_sound (c := b) (by simpa only [codeB] using h)
  | .scope b, h => code_sound (c := b) (by simpa only [codeB] using h)
  | .rangeFunc .., h => by simp [codeB] at h
  | .skip, _ | .exit _, _ | .label _, _ | .goto _, _ | .ret, _ | .refuse _, _ => trivial
end
end Go.Proofs.Ytgeoffpcmkofkaa
/- The functions that a part's goroutine reaches are tame. -/
namespace Go.Proofs.Ytgeoffpcmkofkaa
open Go
set_option maxRecDepth 100000

def fsB (f : Nat) : Bool := f == 37 || f == 56 || f == 57 || f == 70 || (72 ≤ f && f ≤ 78) || (85 ≤ f && f ≤ 89) || (92 ≤ f && f ≤ 124)
def funcB (P : Program) (fs : FuncId → Bool) (f : FuncId) : Bool := match P.funcs[f]? with
  | none => false
  | some fn => !(fn.name == "runtime.NumGoroutine") && !fn.norace && (fn.results.toList.all fun r => match r with | .tmp _ => true | _ => false) && (match fn.body with | some c => codeB P fs c | none => f == 92 || f == 93 || f == 104)
theorem funcs_ok : ((List.range 125).all fun f => !fsB f || funcB Try.prog fsB f) = true := by decide +kernel
theorem fs_lt {f : Nat} (h : fsB f = true) : f < 125 := by
  simp only [fsB, Bool.or_eq_true, Bool.and_eq_true, beq_iff_eq, decide_eq_true_eq] at h
  omega
theorem func_ok {f : FuncId} (h : fsB f = true) : funcB Try.prog fsB f = true := by
  have := List.all_eq_true.1 funcs_ok f (List.mem_range.2 (fs_lt h))
  simpa [h] using this
theorem func_there {f : FuncId} (h : fsB f = true) : ∃ fn, Try.prog.funcs[f]? = some fn := by
  have := func_ok h
  unfold funcB at this
  split at this
  · cases this
  · rename_i fn hfn; exact ⟨fn, hfn⟩
theorem func_parts {f : FuncId} (h : fsB f = true) {fn : Func} (hfn : Try.prog.funcs[f]? = some fn) : (fn.name == "runtime.NumGoroutine") = false ∧ fn.norace = false ∧ (fn.results.toList.all fun r => match r with | .tmp _ => true | _ => false) = true ∧ (∀ c, fn.body = some c → codeB Try.prog fsB c = true) ∧ (fn.body = none → f = 92 ∨ f = 93 ∨ f = 104) := by
  have := func_ok h
  unfold funcB at this
  rw [hfn] at this
  simp only [Bool.and_eq_true, Bool.not_eq_true'] at this
  obtain ⟨⟨⟨h1, h2⟩, h3⟩, h4⟩ := this
  refine ⟨h1, h2, h3, fun c hc => by rw [hc] at h4; exact h4, fun hn => ?_⟩
  rw [hn] at h4
  simpa [or_assoc] using h4
theorem bodies {G : Nat} : BodiesOK G (FSof fsB) Try.prog where
  body := fun f hf fn hfn c hc => code_sound ((func_parts hf hfn).2.2.2.1 c hc)
  res := fun f hf fn hfn r hr => by
    have := List.all_eq_true.1 (func_parts hf hfn).2.2.1 r hr
    cases r with
    | tmp t => exact ⟨t, rfl⟩
    | cell _ _ => cases this
  loud := fun f hf fn hfn => (func_parts hf hfn).2.1
  there := fun f hf => func_there hf
theorem readies_none : (Try.prog.funcs.toList.all fun f => match f.body with | none => true | some c => (readies c).isEmpty) = true := by decide +kernel
theorem noEarly : NoEarly Try.prog where
  follows := by decide +kernel
  none := fun g => by
    unfold Program.stepOf
    rw [Array.findIdx?_eq_none_iff]
    intro f hf
    have := List.all_eq_true.1 readies_none f (by simpa using hf)
    cases hb : f.body with
    | none => simp
    | some c =>
      rw [hb] at this
      have : readies c = [] := by simpa using this
      simp [this]
section
variable {G : Nat} {FS : FuncId → Prop} {P : Program} {B : BR}
theorem r_frombits {xs xs' : Array Value} (h : VRs G FS B xs.toList xs'.toList) : SemR (G := G) (FS := FS) P (VQ G FS) B (Extern.MathFloatBits.float64frombits xs) (Extern.MathFloatBits.float64frombits xs') := by
  obtain ⟨l⟩ := xs
  obtain ⟨l'⟩ := xs'
  simp only at h
  cases h with
  | nil => exact r_stuck _ _
  | cons hv ht =>
    cases ht with
    | cons h1 h2 => exact r_stuck _ _
    | nil =>
      cases hv <;> first | exact r_stuck _ _ | skip
      rename_i k n
      cases k <;> first | exact r_stuck _ _ | exact r_pure (.float _ _)
theorem r_bits {xs xs' : Array Value} (h : VRs G FS B xs.toList xs'.toList) : SemR (G := G) (FS := FS) P (VQ G FS) B (Extern.MathFloatBits.float64bits xs) (Extern.MathFloatBits.float64bits xs') := by
  obtain ⟨l⟩ := xs
  obtain ⟨l'⟩ := xs'
  simp only at h
  cases h with
  | nil => exact r_stuck _ _
  | cons hv ht =>
    cases ht with
    | cons h1 h2 => exact r_stuck _ _
    | nil =>
      cases hv <;> first | exact r_stuck _ _ | skip
      rename_i k n
      cases k <;> first | exact r_stuck _ _ | exact r_pure (.int _ _)
theorem fma_three (x y z : Nat) : SemR (G := G) (FS := FS) P (VQ G FS) B (Extern.MathFMA.fma #[.float .f64 x, .float .f64 y, .float .f64 z]) (Extern.MathFMA.fma #[.float .f64 x, .float .f64 y, .float .f64 z]) := by
  show SemR P (VQ G FS) B (match FloatKind.f64.format.fma x y z with | some r => pure (.float .f64 r) | none => _) (match FloatKind.f64.format.fma x y z with | some r => pure (.float .f64 r) | none => _)
  cases FloatKind.f64.format.fma x y z with
  | some r => exact r_pure (.float _ _)
  | none => exact .choose fun n => .pure (.float _ _)
theorem r_fma {xs xs' : Array Value} (h : VRs G FS B xs.toList xs'.toList) : SemR (G := G) (FS := FS) P (VQ G FS) B (Extern.MathFMA.fma xs) (Extern.MathFMA.fma xs') := by
  obtain ⟨l⟩ := xs
  obtain ⟨l'⟩ := xs'
  simp only at h
  cases h with
  | nil => exact r_stuck _ _
  | cons h1 h =>
  cases h with
  | nil => exact r_stuck _ _
  | cons h2 h =>
  cases h with
  | nil => exact r_stuck _ _
  | cons h3 h =>
  cases h with
  | cons _ _ => exact r_stuck _ _
  | nil =>
    cases h1 <;> first | exact r_stuck _ _ | skip
    rename_i k1 x
    cases k1 <;> first | exact r_stuck _ _ | skip
    cases h2 <;> first | exact r_stuck _ _ | skip
    rename_i k2 y
    cases k2 <;> first | exact r_stuck _ _ | skip
    cases h3 <;> first | exact r_stuck _ _ | skip
    rename_i k3 z
    cases k3 <;> first | exact r_stuck _ _ | skip
    exact fma_three x y z
end
theorem next92 : Extern.findNext Try.f92 = none := by decide +kernel
theorem next93 : Extern.findNext Try.f93 = none := by decide +kernel
theorem next104 : Extern.findNext Try.f104 = none := by decide +kernel
theorem find92 : Extern.find Try.f92 = some Extern.MathFloatBits.float64frombits := by kernel_rfl
theorem find93 : Extern.find Try.f93 = some Extern.MathFloatBits.float64bits := by kernel_rfl
theorem find104 : Extern.find Try.f104 = some Extern.MathFMA.fma := by kernel_rfl
theorem openOK {G : Nat} (hG : Try.prog.globals.size ≤ G) : OpenOK G (FSof fsB) Try.prog where
  glob := hG
  funcs := fun f hf fn hfn => by
    obtain ⟨h1, _, _, _, h5⟩ := func_parts hf hfn
    refine ⟨h1, ?_⟩
    cases hb : fn.body with
    | some c => exact .inl rfl
    | none =>
      refine .inr ⟨rfl, ?_⟩
      rcases h5 hb with rfl | rfl | rfl
      · have e : fn = Try.f92 := by rw [Try.func92] at hfn; injection hfn with e; exact e.symm
        subst e
        exact ⟨next92, _, find92, fun B xs xs' h => r_frombits h⟩
      · have e : fn = Try.f93 := by rw [Try.func93] at hfn; injection hfn with e; exact e.symm
        subst e
        exact ⟨next93, _, find93, fun B xs xs' h => r_bits h⟩
      · have e : fn = Try.f104 := by rw [Try.func104] at hfn; injection hfn with e; exact e.symm
        subst e
        exact ⟨next104, _, find104, fun B xs xs' h => r_fma h⟩
end Go.Proofs.Ytgeoffpcmkofkaa
/- In company: a goroutine that others leave alone runs to its end, whatever they do elsewhere. -/
namespace Go.Proofs.Ytgeoffpcmkofkaa
open Go

/-- What others do: blocks that are the goroutine's own (O), and those that it reads (S), stay. -/
structure Keeps (O S : Nat → Prop) (w w2 : World) : Prop where
  size : w.heap.size ≤ w2.heap.size
  block : ∀ r, O r ∨ S r → w2.heap[r]? = w.heap[r]?
  os : w2.os = w.os
  output : w2.output = w.output
/-- Its own blocks after a step: those before, and what it made. -/
def own (O : Nat → Prop) (w2 w1 : World) : Nat → Prop := fun r => O r ∨ (w2.heap.size ≤ r ∧ r < w1.heap.size)
/-- What a step of it does. -/
structure DidO (O : Nat → Prop) (w2 w1 : World) : Prop where
  os : w1.os = w2.os
  tape : w1.tape = w2.tape
  output : w1.output = w2.output
  size : w2.heap.size ≤ w1.heap.size
  kept : ∀ r, r < w2.heap.size → ¬O r → w1.heap[r]? = w2.heap[r]?
/-- What it lists. -/
def EvO (O S : Nat → Prop) (e : Event) : Prop :=
  (∃ a : Addr, e = ⟨.cell a, false, false⟩ ∧ (O a.block ∨ S a.block)) ∨ (∃ a : Addr, e = ⟨.cell a, true, false⟩ ∧ O a.block) ∨ (∃ m, e = ⟨.mark m, false, true⟩ ∧ (m = .noRoom ∨ ∃ f, m = .extern f)) ∨ (∃ r, e = ⟨.obj r, false, false⟩ ∧ O r)
inductive Runs (P : Program) (S : Nat → Prop) (base : List Frame) (Fin : (Nat → Prop) → Frame → World → Prop) : (Nat → Prop) → Frame → List Frame → World → Prop
  | done {O : Nat → Prop} {fr : Frame} {w : World} : fr.mode = .returning → (∀ w2, Keeps O S w w2 → Fin O fr w2) → Runs P S base Fin O fr base w
  | step {O : Nat → Prop} {fr : Frame} {cs : List Frame} {w : World} :
      (∀ w2, Keeps O S w w2 → ∃ fr1 cs1 w1 es, Step1 P fr cs w2 fr1 cs1 w1 es ∧ (∀ main st off, stepG P main { frame := fr, callers := cs, status := st, dying := none, offers := off } w2 = .go { frame := fr1, callers := cs1, status := .running, dying := none } w1 es) ∧ DidO O w2 w1 ∧ ∀ e ∈ es, EvO (own O w2 w1) S e) →
      (∀ w2 fr1 cs1 w1 es, Keeps O S w w2 → Step1 P fr cs w2 fr1 cs1 w1 es → Runs P S base Fin (own O w2 w1) fr1 cs1 w1) → Runs P S base Fin O fr cs w

section
variable {G : Nat} {FS : FuncId → Prop} {Sh : Nat → Prop} {P : Program} {B : BR}
/-- Matched, whatever the lone tape. -/
def WRo (G : Nat) (FS : FuncId → Prop) (Sh : Nat → Prop) (B : BR) (wl w : World) : Prop := ∃ T, WR G FS Sh B (on wl T) w
/-- Each block of the match is the goroutine's own or one that it reads. -/
def Has (Sh : Nat → Prop) (B : BR) (O S : Nat → Prop) : Prop := ∀ r r', B r r' → (Sh r → S r') ∧ (¬Sh r → O r')
theorem WRo.keeps {wl w w2 : World} {O S : Nat → Prop} (h : WRo G FS Sh B wl w) (hO : Has Sh B O S) (k : Keeps O S w w2) : ∃ T, WR G FS Sh B (on wl T) w2 := by
  obtain ⟨T, h⟩ := h
  refine ⟨fun i q => w2.tape (w2.drawn + (i - wl.drawn)) q, fun r r' hb => ?_, h.fn, h.inj, h.low, h.glob, fun i q => ?_⟩
  · obtain ⟨o, o', h1, h2, h3⟩ := h.blk r r' hb
    refine ⟨o, o', h1, ?_, h3⟩
    rw [k.block r' ?_]
    · exact h2
    · by_cases hs : Sh r
      · exact .inr ((hO r r' hb).1 hs)
      · exact .inl ((hO r r' hb).2 hs)
  · show w2.tape (w2.drawn + (wl.drawn + i - wl.drawn)) q = w2.tape (w2.drawn + i) q
    rw [Nat.add_sub_cancel_left]
theorem EvO.of {B1 : BR} {w2 w1 : World} {O S : Nat → Prop} (hO : Has Sh B O S) (hd : Did Sh B B1 w2 w1) {e : Event} (h : EvOK Sh B1 e) : EvO (own O w2 w1) S e := by
  have key : ∀ r r', B1 r r' → (Sh r → S r') ∧ (¬Sh r → own O w2 w1 r') := by
    intro r r' hb
    rcases hd.new r r' hb with q | ⟨q1, q2, q3⟩
    · exact ⟨(hO r r' q).1, fun hs => .inl ((hO r r' q).2 hs)⟩
    · exact ⟨fun hs => absurd hs q3, fun _ => .inr ⟨q1, q2⟩⟩
  rcases h with ⟨a, e1, r, hb⟩ | ⟨a, e1, r, hb, hs⟩ | h | ⟨r', e1, r, hb, hs⟩
  · refine .inl ⟨a, e1, ?_⟩
    by_cases hs : Sh r
    · exact .inr ((key _ _ hb).1 hs)
    · exact .inl ((key _ _ hb).2 hs)
  · exact .inr (.inl ⟨a, e1, (key _ _ hb).2 hs⟩)
  · exact .inr (.inr (.inl h))
  · exact .inr (.inr (.inr ⟨r', e1, (key _ _ hb).2 hs⟩))
theorem DidO.of {B1 : BR} {w2 w1 : World} {O S : Nat → Prop} (hO : Has Sh B O S) (hd : Did Sh B B1 w2 w1) : DidO O w2 w1 := by
  refine ⟨hd.os, hd.tape, hd.output, hd.size, fun r hr hn => hd.kept r hr fun q hb => ?_⟩
  by_cases hs : Sh q
  · exact hs
  · exact absurd ((hO q r hb).2 hs) hn
/-- What is there at the end. -/
def FinV (G : Nat) (FS : FuncId → Prop) (Sh : Nat → Prop) (P : Program) (S : Nat → Prop) (Post : Frame → World → Prop) (O : Nat → Prop) (fr' : Frame) (w : World) : Prop := ∃ B fr wl, Has Sh B O S ∧ FR G FS P B fr fr' ∧ WR G FS Sh B wl w ∧ Post fr wl
theorem runs_of_ends (H : OpenOK G FS P) (HB : BodiesOK G FS P) {S : Nat → Prop} {base : List Frame} {Post : Frame → World → Prop} (hT : ∀ fr w T, Post fr w → Post fr (on w T)) {fr : Frame} {l : List Frame} {wl : World} (he : Ends P Post fr l wl) :
    ∀ {B : BR} {fr' : Frame} {l' : List Frame} {w : World} {O : Nat → Prop}, FR G FS P B fr fr' → FRs G FS P B l l' → WRo G FS Sh B wl w → Has Sh B O S → Runs P S base (FinV G FS Sh P S Post) O fr' (l' ++ base) w := by
  induction he with
  | @done fr wl hm hp =>
    intro B fr' l' w O hf hl hw hO
    cases hl
    refine .done (by rw [hf.mode]; exact hm) fun w2 hk => ?_
    obtain ⟨T, hw2⟩ := hw.keeps hO hk
    exact ⟨B, fr, _, hO, hf, hw2, hT _ _ _ hp⟩
  | @step fr l wl hend hsome hall ih =>
    intro B fr' l' w O hf hl hw hO
    have key : ∀ w2, Keeps O S w w2 → ∃ fr1 l1 wl1, Ends P Post fr1 l1 wl1 ∧ (∃ T es, Step1 P fr (l ++ [shut P]) (on wl T) fr1 (l1 ++ [shut P]) wl1 es) ∧ ∃ B1 fr1' l1' w1 es', Step1 P fr' (l' ++ base) w2 fr1' (l1' ++ base) w1 es' ∧ FR G FS P B1 fr1 fr1' ∧ FRs G FS P B1 l1 l1' ∧ WR G FS Sh B1 wl1 w1 ∧ Did Sh B B1 w2 w1 ∧ ∀ e ∈ es', EvOK Sh B1 e := by
      intro w2 hk
      obtain ⟨T, hw2⟩ := hw.keeps hO hk
      obtain ⟨fr1, l1, wl1, es, hs⟩ := hsome T
      obtain ⟨B1, fr1', l2, l1', w1, es', m⟩ := Step1.sim H HB (base := base) hf hl hw2 hs hend
      have e : l1 = l2 := by simpa using m.cs1
      subst e
      exact ⟨fr1, l1, wl1, hall T fr1 l1 wl1 es hs, ⟨T, es, hs⟩, B1, fr1', l1', w1, es', m.step, m.fr, m.frs, m.wr, m.did, m.ev⟩
    have ft' : FT G FS P fr' := by
      have := hf.ft
      refine ⟨by rw [hf.fn]; exact this.fn, by rw [hf.todo]; exact this.todo, ?_, ?_, ?_⟩
      · rw [hf.eq]; exact this.defers
      · rw [hf.eq]; exact this.kind
      · rw [hf.eq]; exact this.round
    refine .step (fun w2 hk => ?_) fun w2 fr1' cs1' w1 es hk hs => ?_
    · obtain ⟨fr1, l1, wl1, _, _, B1, fr1', l1', w1, es', k1, _, _, _, k5, k6⟩ := key w2 hk
      exact ⟨fr1', l1' ++ base, w1, es', k1, fun main st off => k1.goes ft', DidO.of hO k5, fun e he => EvO.of hO k5 (k6 e he)⟩
    · obtain ⟨fr1, l1, wl1, _, ⟨T, es0, hs0⟩, B1, fr2', l1', w2', es', k1, k2, k3, k4, k5, k6⟩ := key w2 hk
      obtain ⟨e1, e2, e3⟩ := Step1.same ft' k1 hs
      subst e1 e2 e3
      refine ih T fr1 l1 wl1 es0 hs0 k2 k3 ⟨wl1.tape, k4⟩ fun r r' hb => ?_
      rcases k5.new r r' hb with q | ⟨q1, q2, q3⟩
      · exact ⟨(hO r r' q).1, fun hs => .inl ((hO r r' q).2 hs)⟩
      · exact ⟨fun hs => absurd hs q3, fun _ => .inr ⟨q1, q2⟩⟩
end
end Go.Proofs.Ytgeoffpcmkofkaa
/- Several at once: at each step one of them gets smaller. -/
namespace Go.Proofs.Ytgeoffpcmkofkaa
open Go

/-- One of a list is replaced by a smaller one. -/
inductive One {α : Type} (R : α → α → Prop) : List α → List α → Prop
  | here {x y : α} {l : List α} : R x y → One R (x :: l) (y :: l)
  | there {x : α} {l m : List α} : One R l m → One R (x :: l) (x :: m)
theorem acc_cons {α : Type} {R : α → α → Prop} {x : α} (hx : Acc R x) : ∀ {l : List α}, Acc (One R) l → Acc (One R) (x :: l) := by
  induction hx with
  | intro x hx ihx =>
    intro l hl
    induction hl with
    | intro l hl ihl =>
      refine .intro _ fun m hm => ?_
      cases hm with
      | here h => exact ihx _ h (.intro l hl)
      | there h => exact ihl _ h
theorem acc_one {α : Type} {R : α → α → Prop} : ∀ {l : List α}, (∀ x ∈ l, Acc R x) → Acc (One R) l
  | [], _ => .intro _ fun m hm => by cases hm
  | x :: l, h => acc_cons (h x (by simp)) (acc_one fun y hy => h y (by simp [hy]))

/-- Where a goroutine stands: its own blocks, its frames, the world at its last step. -/
structure Seat where
  own : Nat → Prop
  fr : Frame
  cs : List Frame
  w : World
/-- One step further, behind what others did. -/
def Later (P : Program) (S : Nat → Prop) (x1 x : Seat) : Prop := ∃ w2 es, Keeps x.own S x.w w2 ∧ Step1 P x.fr x.cs w2 x1.fr x1.cs x1.w es ∧ x1.own = own x.own w2 x1.w
section
variable {P : Program} {S : Nat → Prop} {base : List Frame} {Fin : (Nat → Prop) → Frame → World → Prop}
/-- Not yet at the end. -/
def Under (P : Program) (S : Nat → Prop) (base : List Frame) (Fin : (Nat → Prop) → Frame → World → Prop) (x : Seat) : Prop := Runs P S base Fin x.own x.fr x.cs x.w
/-- Steps that are taken on the way, none at the end. -/
def Way (P : Program) (S : Nat → Prop) (base : List Frame) (x1 x : Seat) : Prop := ¬(x.fr.mode = .returning ∧ x.cs = base) ∧ Later P S x1 x
theorem Under.acc {x : Seat} (h : Under P S base Fin x) : Acc (Way P S base) x := by
  obtain ⟨O, fr, cs, w⟩ := x
  unfold Under at h
  simp only at h
  induction h with
  | done hm _ => exact .intro _ fun y hy => absurd ⟨hm, rfl⟩ hy.1
  | step _ _ ih =>
    refine .intro _ fun y hy => ?_
    obtain ⟨_, w2, es, h1, h2, h3⟩ := hy
    obtain ⟨O1, fr1, cs1, w1⟩ := y
    simp only at h1 h2 h3
    subst h3
    exact ih w2 fr1 cs1 w1 es h1 h2
/-- What others do elsewhere does not matter. -/
theorem Runs.keeps {O : Nat → Prop} {fr : Frame} {cs : List Frame} {w w' : World} (h : Runs P S base Fin O fr cs w) (hk : Keeps O S w w') : Runs P S base Fin O fr cs w' := by
  have tr : ∀ {w2}, Keeps O S w' w2 → Keeps O S w w2 := fun k => ⟨Nat.le_trans hk.size k.size, fun r hr => (k.block r hr).trans (hk.block r hr), k.os.trans hk.os, k.output.trans hk.output⟩
  cases h with
  | done hm hf => exact .done hm fun w2 k => hf w2 (tr k)
  | step h1 h2 => exact .step (fun w2 k => h1 w2 (tr k)) fun w2 fr1 cs1 w1 es k hs => h2 w2 fr1 cs1 w1 es (tr k) hs
end
end Go.Proofs.Ytgeoffpcmkofkaa
/- A call in company: its return. -/
namespace Go.Proofs.Ytgeoffpcmkofkaa
open Go

section
variable {G : Nat} {FS : FuncId → Prop} {Sh : Nat → Prop} {P : Program} {S : Nat → Prop}
/-- At the end of the call: it hands its value back, and the value and the memory are those of which the lone contract speaks, up to the numbers of blocks. -/
theorem fin_ret (HB : BodiesOK G FS P) {f : FuncId} (hf : FS f) {Q : Value → World → Prop} {O : Nat → Prop} {fr' : Frame} {w : World} (h : FinV G FS Sh P S (PostV P f Q) O fr' w) (hm : fr'.mode = .returning) :
    ∃ B v v' wl, Has Sh B O S ∧ WR G FS Sh B wl w ∧ VR G FS B v v' ∧ Q v wl ∧ ∀ main st off c rest, stepG P main { frame := fr', callers := c :: rest, status := st, dying := none, offers := off } w = .go { frame := c.finish v', callers := rest, status := .running, dying := none } w #[] := by
  obtain ⟨B, fr, wl, h1, h2, h3, h4, fn, v, h5, h6, h7⟩ := h
  obtain ⟨ts, hts⟩ := tmps_of fn.results.toList (HB.res f hf fn h5)
  have e := results_tmps hts fr.tmps
  have e' := results_tmps hts fr'.tmps
  have hv : v = resOf (ts.map fun t => fr.tmps.getD t undef) := by
    rw [e] at h6
    simp only [pure, Sem.run] at h6
    injection h6 with h6 _
    exact h6.symm
  subst hv
  refine ⟨B, _, resOf (ts.map fun t => fr'.tmps.getD t undef), wl, h1, h3, resOf_rel h2.tmps ts, h7, fun main st off c rest => ?_⟩
  refine step_ret hm ?_ ?_ (by rw [h2.fn, h4]; exact h5) (by rw [e']; rfl)
  · rw [h2.eq]; exact h2.ft.defers
  · rw [h2.eq]; exact h2.ft.kind
/-- A call that has a lone contract on every tape, in company. -/
theorem runs_of_calls (H : OpenOK G FS P) (HB : BodiesOK G FS P) (HN : NoEarly P) {f : FuncId} (hf : FS f) {B : BR} {xs xs' : Array Value} (ha : VRs G FS B xs.toList xs'.toList) {wl w : World} (hw : WR G FS Sh B wl w) {O : Nat → Prop} (hO : Has Sh B O S) {Q : Value → World → Prop} (hQ : ∀ v w T, Q v w → Q v (on w T))
    (h : ∀ T, Calls P f xs (on wl T) fun e w' => ∃ v, e = .returned v ∧ Q v w') (base : List Frame) : Runs P S base (FinV G FS Sh P S (PostV P f Q)) O (Frame.enter P f xs' .normal) base w :=
  runs_of_ends H HB (postV_on HB hf hQ) (ends_of_calls H HB HN hf ha hw hQ h) (l' := []) (FR.enter HB hf ha) .nil ⟨wl.tape, hw⟩ hO

/-! ### The lone world of a goroutine that reads one row of memory -/
/-- The same world, one row of which may not be written. -/
def iced (w : World) (r0 : Nat) (c : Array Value) (e : TypeId) : World := { w with heap := w.heap.setIfInBounds r0 (.cells c e (0, c.size)) }
theorem iced_at {w : World} {r0 : Nat} {c : Array Value} {e : TypeId} (h : r0 < w.heap.size) : (iced w r0 c e).heap[r0]? = some (.cells c e (0, c.size)) := by
  simp [iced, h]
theorem iced_cell {w : World} {r0 : Nat} {c : Array Value} {e : TypeId} {fr : Nat × Nat} (h : w.heap[r0]? = some (.cells c e fr)) (a : Addr) : (iced w r0 c e).cell? a = w.cell? a := by
  have hlt : r0 < w.heap.size := (Array.getElem?_eq_some_iff.1 h).1
  by_cases ha : a.block = r0
  · subst ha
    simp [World.cell?, iced_at hlt, h]
  · have : (iced w r0 c e).heap[a.block]? = w.heap[a.block]? := by
      simp [iced, Ne.symm ha]
    simp [World.cell?, this]
theorem iced_WR {w : World} {r0 : Nat} {c : Array Value} {e : TypeId} (h : w.heap[r0]? = some (.cells c e (0, 0))) (hG : G ≤ w.heap.size) (hc : ∀ B, VRs G FS B c.toList c.toList) : WR G FS (· = r0) (fun r r' => r = r0 ∧ r' = r0) (iced w r0 c e) w := by
  have hlt : r0 < w.heap.size := (Array.getElem?_eq_some_iff.1 h).1
  refine ⟨fun r r' hb => ?_, fun r r' q' h1 h2 => h1.2.trans h2.2.symm, fun r q r' h1 h2 => h1.1.trans h2.1.symm, fun r hr => ?_, ?_, fun i q => rfl⟩
  · obtain ⟨rfl, rfl⟩ := hb
    exact ⟨_, _, iced_at hlt, h, .cells (hc _) (fun _ => rfl) fun hn => absurd rfl hn⟩
  · subst hr; simpa [iced] using hlt
  · simpa [iced] using hG
end
end Go.Proofs.Ytgeoffpcmkofkaa
/- The trace while goroutines work side by side, each in blocks of its own, all reading what nobody writes. -/
namespace Go.Proofs.Ytgeoffpcmkofkaa
open Go Go.Conc

/-- The block of a place. -/
def blk : Loc → Option Nat
  | .cell a => some a.block
  | .obj r => some r
  | _ => none
section
variable (Live : Nat → Prop) (Own : Nat → Nat → Prop) (S Ch : Nat → Prop)
structure Lie : Prop where
  own : ∀ g g' b, Live g → Live g' → Own g b → Own g' b → g = g'
  ownS : ∀ g b, Live g → Own g b → ¬S b
  ownCh : ∀ g b, Live g → Own g b → ¬Ch b
  chS : ∀ b, Ch b → ¬S b
/-- A touch that a goroutine may make. -/
def May (g : Nat) (x : Touch) : Prop := ∃ b, blk x.loc = some b ∧ (Own g b ∨ (S b ∧ x.write = false) ∨ (Ch b ∧ x.kind = .atomic))
structure TB (N : Nat) (t : Trace) : Prop where
  clean : ∀ said, ¬Race said t
  zone : ∀ i a, touchAt t i = some a → a.loc.isMemory = true → (∀ g, Live g → Knows t g i) ∨ ∃ g, t.g? i = some g ∧ Live g ∧ May Own S Ch g a
  hears : ∀ g, Live g → Deaf t g = 0
  seen : ∀ op ∈ t, op.act.low N
structure OkT (N g : Nat) (op : MemOp) : Prop where
  by_ : op.g = g
  may : ∀ x, op.act.touch? = some x → x.loc.isMemory = true → May Own S Ch g x
  low : op.act.low N
  dis : op.act ≠ .mark .disable
  ena : op.act ≠ .mark .enable
end
section
variable {Live Live' : Nat → Prop} {Own Own' : Nat → Nat → Prop} {S Ch Ch' : Nat → Prop} {N N' : Nat} {t u : Trace}
theorem gq_of {i : Nat} {op : MemOp} (h : t[i]? = some op) : t.g? i = some op.g := by simp [Trace.g?, h]
theorem gq_app {i g : Nat} (u : Trace) (h : t.g? i = some g) : (t ++ u).g? i = some g := by
  unfold Trace.g? at h
  obtain ⟨z, hz, rfl⟩ := Option.map_eq_some_iff.1 h
  exact gq_of (by rw [getElem?_append_old (lt_size_of_getElem? hz)]; exact hz)
theorem knows_gq {i g : Nat} (h : t.g? i = some g) : Knows t g i := by
  unfold Trace.g? at h
  obtain ⟨z, hz, rfl⟩ := Option.map_eq_some_iff.1 h
  exact knows_own hz
theorem May.mono {g : Nat} {x : Touch} (h : May Own S Ch g x) (hO : ∀ b, Own g b → Own' g b) (hC : ∀ b, Ch b → Ch' b) : May Own' S Ch' g x := by
  obtain ⟨b, h1, h2⟩ := h
  exact ⟨b, h1, h2.imp (hO b) fun k => k.imp id fun k => ⟨hC b k.1, k.2⟩⟩
theorem TB.mono (h : TB Live Own S Ch N t) (hO : ∀ g b, Live g → Own g b → Own' g b) (hC : ∀ b, Ch b → Ch' b) (hN : N ≤ N') : TB Live Own' S Ch' N' t :=
  ⟨h.clean, fun i a ha hm => (h.zone i a ha hm).imp id fun ⟨g, h1, h2, h3⟩ => ⟨g, h1, h2, h3.mono (fun b => hO g b h2) hC⟩, h.hears, fun op hop => MemAct.low_mono hN (h.seen op hop)⟩
theorem deaf_still {g : Nat} : ∀ (l : List MemOp) (t : Trace), (∀ op ∈ l, op.act ≠ .mark .disable ∧ op.act ≠ .mark .enable) → Deaf (t ++ l.toArray) g = Deaf t g
  | [], t, _ => by simp
  | x :: l, t, h => by
    have e : t ++ (x :: l).toArray = (t ++ #[x]) ++ l.toArray := by apply Array.ext'; simp
    rw [e, deaf_still l _ fun op hop => h op (by simp [hop]), Deaf_push]
    have hx := h x (by simp)
    unfold deafStep
    split
    · rename_i e; exact absurd e hx.1
    · rename_i e; exact absurd e hx.2
    · rfl
theorem TB.app (A : Lie Live Own S Ch) (h : TB Live Own S Ch N t) {g : Nat} (hg : Live g) (hu : ∀ op ∈ u, OkT Own S Ch N g op) : TB Live Own S Ch N (t ++ u) := by
  refine ⟨fun said => noRace_append (h.clean said) (fun op hop => (hu op hop).by_) fun i a ha op hop b hb hc => ?_, fun i a ha hm => ?_, fun g' hg' => ?_, seen_app h.seen fun op hop => (hu op hop).low⟩
  · obtain ⟨h1, h2, h3, h4⟩ := hc
    rcases h.zone i a ha h2 with hk | ⟨g', k1, k2, bl, k3, k4⟩
    · exact hk g hg
    · obtain ⟨bl', m3, m4⟩ := (hu op hop).may b hb (by rw [← h1]; exact h2)
      rw [← h1, k3] at m3
      injection m3 with m3
      subst m3
      rcases k4 with k4 | ⟨k4, k5⟩ | ⟨k4, k5⟩ <;> rcases m4 with m4 | ⟨m4, m5⟩ | ⟨m4, m5⟩
      · rw [← A.own g' g bl k2 hg k4 m4]; exact knows_gq k1
      · exact absurd m4 (A.ownS g' bl k2 k4)
      · exact absurd m4 (A.ownCh g' bl k2 k4)
      · exact absurd k4 (A.ownS g bl hg m4)
      · rw [k5, m5] at h3; simp at h3
      · exact absurd k4 (A.chS bl m4)
      · exact absurd k4 (A.ownCh g bl hg m4)
      · exact absurd m4 (A.chS bl k4)
      · rw [k5, m5] at h4; simp at h4
  · obtain ⟨x, hx, hxa⟩ := touch_of ha
    rcases getElem?_append_cases hx with ⟨_, hx'⟩ | ⟨_, hxu⟩
    · exact (h.zone i a (by rw [touchAt_of hx']; exact hxa) hm).imp (fun k g' hg' => (k g' hg').app u) fun ⟨g', k1, k2, k3⟩ => ⟨g', gq_app u k1, k2, k3⟩
    · exact .inr ⟨g, by rw [gq_of hx, (hu x hxu).by_], hg, (hu x hxu).may a hxa hm⟩
  · have := deaf_still (g := g') u.toList t fun op hop => ⟨(hu op (by simpa using hop)).dis, (hu op (by simpa using hop)).ena⟩
    have e : t ++ u.toList.toArray = t ++ u := by simp
    rw [e] at this
    rw [this]
    exact h.hears g' hg'
/-- What anybody does who touches nothing. -/
structure Still (N : Nat) (op : MemOp) : Prop where
  touch : op.act.touch? = none
  low : op.act.low N
  dis : op.act ≠ .mark .disable
  ena : op.act ≠ .mark .enable
theorem noRace_still {said : Bool} (h : ¬Race said t) (hu : ∀ op ∈ u, op.act.touch? = none) : ¬Race said (t ++ u) := by
  rintro ⟨i, j, hij, ⟨a, b, ha, hb, hc⟩, n1, n2⟩
  obtain ⟨x, hx, hxa⟩ := touch_of ha
  obtain ⟨y, hy, hyb⟩ := touch_of hb
  rcases getElem?_append_cases hy with ⟨hj, hy'⟩ | ⟨_, hyu⟩
  · have hi : i < t.size := Nat.lt_trans hij hj
    have hx' : t[i]? = some x := by rw [← getElem?_append_old (u := u) hi]; exact hx
    exact h ⟨i, j, hij, ⟨a, b, by simp [Trace.act?, hx', hxa], by simp [Trace.act?, hy', hyb], hc⟩, fun e => n1 (hb_app u e), fun e => n2 (hb_app u e)⟩
  · rw [hu y hyu] at hyb; cases hyb
theorem TB.still (h : TB Live Own S Ch N t) (hu : ∀ op ∈ u, Still N op) : TB Live Own S Ch N (t ++ u) := by
  refine ⟨fun said => noRace_still (h.clean said) fun op hop => (hu op hop).touch, fun i a ha hm => ?_, fun g hg => ?_, seen_app h.seen fun op hop => (hu op hop).low⟩
  · obtain ⟨x, hx, hxa⟩ := touch_of ha
    rcases getElem?_append_cases hx with ⟨_, hx'⟩ | ⟨_, hxu⟩
    · exact (h.zone i a (by rw [touchAt_of hx']; exact hxa) hm).imp (fun k g hg => (k g hg).app u) fun ⟨g, k1, k2, k3⟩ => ⟨g, gq_app u k1, k2, k3⟩
    · rw [(hu x hxu).touch] at hxa; cases hxa
  · have := deaf_still (g := g) u.toList t fun op hop => ⟨(hu op (by simpa using hop)).dis, (hu op (by simpa using hop)).ena⟩
    have e : t ++ u.toList.toArray = t ++ u := by simp
    rw [e] at this
    rw [this]
    exact h.hears g hg
/-- What one does who is not in the company and touches nothing. -/
theorem TB.mute (h : TB Live Own S Ch N t) {g : Nat} (hg : ¬Live g) (hu : ∀ op ∈ u, op.g = g ∧ op.act.touch? = none ∧ op.act.low N) : TB Live Own S Ch N (t ++ u) := by
  refine ⟨fun said => noRace_still (h.clean said) fun op hop => (hu op hop).2.1, fun i a ha hm => ?_, fun g' hg' => ?_, seen_app h.seen fun op hop => (hu op hop).2.2⟩
  · obtain ⟨x, hx, hxa⟩ := touch_of ha
    rcases getElem?_append_cases hx with ⟨_, hx'⟩ | ⟨_, hxu⟩
    · exact (h.zone i a (by rw [touchAt_of hx']; exact hxa) hm).imp (fun k g hg => (k g hg).app u) fun ⟨g, k1, k2, k3⟩ => ⟨g, gq_app u k1, k2, k3⟩
    · rw [(hu x hxu).2.1] at hxa; cases hxa
  · have hne : g ≠ g' := fun e => hg (e ▸ hg')
    rw [Deaf_other t hne u fun op hop => (hu op hop).1]
    exact h.hears g' hg'
theorem TB.fork (h : TB Live Own S Ch N t) {k : Nat} (h0 : Live 0) (hk : Deaf t k = 0) {x y : MemOp} (hx : x.g = 0 ∧ x.act = .go k) (hy : y.g = k ∧ y.act = .start) (hL : ∀ g, Live' g ↔ Live g ∨ g = k) : TB Live' Own S Ch N (t ++ #[x, y]) := by
  have hs : ∀ op ∈ #[x, y], Still N op := by
    intro op hop
    have : op = x ∨ op = y := by simpa using hop
    rcases this with rfl | rfl
    · exact ⟨by rw [hx.2]; rfl, by rw [hx.2]; trivial, by rw [hx.2]; simp, by rw [hx.2]; simp⟩
    · exact ⟨by rw [hy.2]; rfl, by rw [hy.2]; trivial, by rw [hy.2]; simp, by rw [hy.2]; simp⟩
  have h' := h.still hs
  refine ⟨h'.clean, fun i a ha hm => ?_, fun g hg => ?_, h'.seen⟩
  · obtain ⟨z, hz, hza⟩ := touch_of ha
    rcases getElem?_append_cases hz with ⟨_, hz'⟩ | ⟨_, hzu⟩
    · rcases h.zone i a (by rw [touchAt_of hz']; exact hza) hm with q | ⟨g, q1, q2, q3⟩
      · refine .inl fun g hg => ?_
        rcases (hL g).1 hg with hg | rfl
        · exact (q g hg).app _
        · exact Go.ConcN.fork_knows hx hy (h.hears 0 h0) hk (q 0 h0)
      · exact .inr ⟨g, gq_app _ q1, (hL g).2 (.inl q2), q3⟩
    · rw [(hs z hzu).touch] at hza; cases hza
  · rcases (hL g).1 hg with hg | rfl
    · exact h'.hears g hg
    · have := deaf_still (g := g) [x, y] t fun op hop => ⟨(hs op (by simpa using hop)).dis, (hs op (by simpa using hop)).ena⟩
      exact this.trans hk
theorem TB.ofPast (h : Past (fun _ => False) N t) : TB (· = 0) Own S Ch N t :=
  ⟨h.clean, fun i a ha hm => (h.known i a ha hm).elim (fun k => .inl fun g hg => by rw [hg]; exact k) fun k => k.1.elim, fun g hg => by rw [hg]; exact h.hears, h.seen⟩

/-- Goroutine k has closed c, and has touched nothing since. -/
structure ShutAt (k c : Nat) (t : Trace) (pc : Nat) : Prop where
  close : ∃ op, t[pc]? = some op ∧ op.g = k ∧ op.act = .close c
  heard : t.heard pc
  last : ∀ i op, t[i]? = some op → op.g = k → op.act.touch? ≠ none → i < pc
/-- Goroutine 0 knows all that k has touched. -/
def AllKnown (k : Nat) (t : Trace) : Prop := ∀ i a, touchAt t i = some a → t.g? i = some k → Knows t 0 i
theorem ShutAt.app {k c pc : Nat} (h : ShutAt k c t pc) (hu : ∀ op ∈ u, op.g = k → op.act.touch? = none) : ShutAt k c (t ++ u) pc := by
  obtain ⟨op, h1, h2, h3⟩ := h.close
  have hlt := lt_size_of_getElem? h1
  refine ⟨⟨op, by rw [getElem?_append_old hlt]; exact h1, h2, h3⟩, (heard_old hlt).2 h.heard, fun i z hz hg ht => ?_⟩
  rcases getElem?_append_cases hz with ⟨_, hz'⟩ | ⟨_, hzu⟩
  · exact h.last i z hz' hg ht
  · exact absurd (hu z hzu hg) ht
theorem AllKnown.app {k : Nat} (h : AllKnown k t) (hu : ∀ op ∈ u, op.g = k → op.act.touch? = none) : AllKnown k (t ++ u) := by
  intro i a ha hg
  obtain ⟨x, hx, hxa⟩ := touch_of ha
  have hxg : x.g = k := by rw [gq_of hx] at hg; injection hg
  rcases getElem?_append_cases hx with ⟨_, hx'⟩ | ⟨_, hxu⟩
  · exact (h i a (by rw [touchAt_of hx']; exact hxa) (by rw [gq_of hx', hxg])).app u
  · rw [hu x hxu hxg] at hxa; cases hxa
theorem ShutAt.new {k c : Nat} {y : MemOp} (hy : y.g = k ∧ y.act = .close c) (hd : Deaf t k = 0) : ShutAt k c (t ++ #[y]) t.size := by
  have hlast : (t ++ #[y])[t.size]? = some y := by rw [Array.getElem?_append_right (Nat.le_refl _)]; simp
  refine ⟨⟨y, hlast, hy.1, hy.2⟩, ⟨k, by rw [gq_of hlast, hy.1], by rw [deaf_old (Nat.le_refl _)]; exact hd⟩, fun i op hi hg ht => ?_⟩
  rcases getElem?_append_cases hi with ⟨hlt, _⟩ | ⟨_, hu⟩
  · exact hlt
  · have : op = y := by simpa using hu
    rw [this, hy.2] at ht
    exact absurd rfl ht
theorem ShutAt.known {k c pc : Nat} {y : MemOp} (h : ShutAt k c t pc) (hy : y.g = 0 ∧ y.act = .recvClosed c) (hd : Deaf t 0 = 0) : AllKnown k (t ++ #[y]) := by
  intro i a ha hg
  have hlast : (t ++ #[y])[t.size]? = some y := by rw [Array.getElem?_append_right (Nat.le_refl _)]; simp
  obtain ⟨op, h1, h2, h3⟩ := h.close
  have hlt := lt_size_of_getElem? h1
  have h1' : (t ++ #[y])[pc]? = some op := by rw [getElem?_append_old hlt]; exact h1
  have e2 : HappensBefore (t ++ #[y]) pc t.size := .single (.inr ⟨.closed (c := c) (by rw [act?_of h1', h3]) (by rw [act?_of hlast, hy.2]), (heard_old hlt).2 h.heard, ⟨0, by rw [gq_of hlast, hy.1], by rw [deaf_old (Nat.le_refl _)]; exact hd⟩⟩)
  obtain ⟨x, hx, hxa⟩ := touch_of ha
  have hxg : x.g = k := by rw [gq_of hx] at hg; injection hg
  rcases getElem?_append_cases hx with ⟨_, hx'⟩ | ⟨_, hxu⟩
  · have hi := h.last i x hx' hxg (by rw [hxa]; simp)
    exact ⟨t.size, y, hlast, hy.1, .inr ((hb_po hi hx h1' (by rw [hxg, h2])).trans e2)⟩
  · have : x = y := by simpa using hxu
    rw [this, hy.2] at hxa
    cases hxa
theorem TB.toPast (h : TB Live Own S Ch N t) (h0 : Live 0) (hk : ∀ g, Live g → g ≠ 0 → AllKnown g t) : Past (fun _ => False) N t := by
  have known : ∀ i a, touchAt t i = some a → a.loc.isMemory = true → Knows t 0 i := by
    intro i a ha hm
    rcases h.zone i a ha hm with q | ⟨g, q1, q2, _⟩
    · exact q 0 h0
    · by_cases hg : g = 0
      · rw [hg] at q1; exact knows_gq q1
      · exact hk g q2 hg i a ha q1
  refine ⟨h.clean, fun i a ha hm => .inl (known i a ha hm), fun i g hg hne hc => ?_, h.hears 0 h0, h.seen⟩
  obtain ⟨x, hx, hm, _⟩ := hc
  obtain ⟨q, z, k1, k2, k3⟩ := known i x hx hm
  refine ⟨q, by rw [gq_of k1, k2], ?_⟩
  rcases k3 with rfl | k3
  · rw [gq_of k1, k2] at hg; injection hg with hg; exact absurd hg.symm hne
  · exact k3
end
end Go.Proofs.Ytgeoffpcmkofkaa
/- Trees of goroutines that send on channels of their own, and of the one that starts them and receives. -/
namespace Go.Proofs.Ytgeoffpcmkofkaa
open Go Go.Conc

/-- One value of a function put in another's place. -/
def put {α : Type} (f : Nat → α) (g : Nat) (x : α) : Nat → α := fun i => if i = g then x else f i
theorem put_same {α : Type} (f : Nat → α) (g : Nat) (x : α) : put f g x g = x := if_pos rfl
theorem put_ne {α : Type} (f : Nat → α) {g i : Nat} (x : α) (h : i ≠ g) : put f g x i = f i := if_neg h

/-- What one lists: its own, what nobody writes, and marks. -/
def EvW (O S : Nat → Prop) (e : Event) : Prop :=
  (∃ a : Addr, e.loc = .cell a ∧ (O a.block ∨ (S a.block ∧ e.write = false))) ∨ (∃ m, e = ⟨.mark m, false, true⟩ ∧ (m = .noRoom ∨ ∃ f, m = .extern f)) ∨ (∃ r, e = ⟨.obj r, false, false⟩ ∧ O r)
theorem EvO.toW {O S : Nat → Prop} {e : Event} (h : EvO O S e) : EvW O S e := by
  rcases h with ⟨a, rfl, h⟩ | ⟨a, rfl, h⟩ | h | h
  · exact .inl ⟨a, rfl, h.imp id fun k => ⟨k, rfl⟩⟩
  · exact .inl ⟨a, rfl, .inl h⟩
  · exact .inr (.inl h)
  · exact .inr (.inr h)
/-- One that works, sends these values on c, closes it and leaves. -/
inductive KT (P : Program) (S : Nat → Prop) (c : Nat) : List Value → (Nat → Prop) → Goroutine → World → Prop
  | own {outs : List Value} {O : Nat → Prop} {g : Goroutine} {w : World} : g.status = .running →
      (∀ w2, Keeps O S w w2 → ∃ g1 w1 es, stepG P false g w2 = .go g1 w1 es ∧ DidO O w2 w1 ∧ ∀ e ∈ es, EvW (own O w2 w1) S e) →
      (∀ w2 g1 w1 es, Keeps O S w w2 → stepG P false g w2 = .go g1 w1 es → KT P S c outs (own O w2 w1) g1 w1) → KT P S c outs O g w
  | send {v z : Value} {outs : List Value} {O : Nat → Prop} {g : Goroutine} {w : World} : g.status = .running →
      (∀ w2, Keeps O S w w2 → stepG P false g w2 = .comm g #[scase c v z] true .send w2 #[]) → KT P S c outs O (Conc.served g undef) w → KT P S c (v :: outs) O g w
  | shut {O : Nat → Prop} {g g1 : Goroutine} {w : World} {n : Nat} : g.status = .running → mayWake P g = true →
      (∀ w2 cap s r tm, Keeps O S w w2 → w2.heap[c]? = some (.chan cap #[] false s r tm) → stepG P false g w2 = .go g1 { w2 with heap := w2.heap.setIfInBounds c (.chan cap #[] true s r tm) } #[⟨.obj c, false, true⟩, ⟨.obj c, true, true⟩]) → QuitsIn P n g1 → KT P S c [] O g w
theorem KT.running {P : Program} {S : Nat → Prop} {c : Nat} {outs : List Value} {O : Nat → Prop} {g : Goroutine} {w : World} (h : KT P S c outs O g w) : g.status = .running := by
  cases h <;> assumption
/-- One that starts such, and receives from each till it is closed. -/
inductive MB (P : Program) (S : Nat → Prop) (Fin : Goroutine → World → Prop) : (Nat → Option (List Value)) → Option Nat → (Nat → Prop) → Goroutine → World → Prop
  | own {E : Nat → Option (List Value)} {R : Option Nat} {O : Nat → Prop} {a : Goroutine} {w : World} : a.status = .running →
      (∀ w2, Keeps O S w w2 → ∃ a1 w1 es, stepG P true a w2 = .go a1 w1 es ∧ a1.status = .running ∧ DidO O w2 w1 ∧ ∀ e ∈ es, EvW (own O w2 w1) S e) →
      (∀ w2 a1 w1 es, Keeps O S w w2 → stepG P true a w2 = .go a1 w1 es → MB P S Fin E R (own O w2 w1) a1 w1) → MB P S Fin E R O a w
  | make {E : Nat → Option (List Value)} {O : Nat → Prop} {a : Goroutine} {w : World} {tm : Bool} : a.status = .running →
      (∀ w2, Keeps O S w w2 → ∃ a1, stepG P true a w2 = .go a1 { w2 with heap := w2.heap.push (.chan 0 #[] false 0 0 tm) } #[] ∧ a1.status = .running) →
      (∀ w2 a1 w1 es, Keeps O S w w2 → stepG P true a w2 = .go a1 w1 es → MB P S Fin E (some w2.heap.size) O a1 w1) → MB P S Fin E none O a w
  | spawn {E : Nat → Option (List Value)} {c : Nat} {outs : List Value} {O : Nat → Prop} {a a1 child : Goroutine} {w : World} : a.status = .running → a1.status = .running →
      (∀ w2, Keeps O S w w2 → stepG P true a w2 = .spawn a1 child w2 #[]) → (∀ w2, Keeps O S w w2 → KT P S c outs (fun _ => False) child w2) →
      MB P S Fin (put E c (some outs)) none O a1 w → MB P S Fin E (some c) O a w
  | recv {E : Nat → Option (List Value)} {R : Option Nat} {c : Nat} {v z : Value} {outs : List Value} {O : Nat → Prop} {a : Goroutine} {w : World} : a.status = .running →
      (∀ w2, Keeps O S w w2 → stepG P true a w2 = .comm a #[rcase c z] true (.recv true) w2 #[]) → E c = some (v :: outs) →
      MB P S Fin (put E c (some outs)) R O (Conc.served a (recvd true v true)) w → MB P S Fin E R O a w
  | last {E : Nat → Option (List Value)} {R : Option Nat} {c : Nat} {z : Value} {O : Nat → Prop} {a : Goroutine} {w : World} : a.status = .running →
      (∀ w2, Keeps O S w w2 → stepG P true a w2 = .comm a #[rcase c z] true (.recv true) w2 #[]) → E c = some [] →
      MB P S Fin (put E c none) R O (Conc.served a (recvd true z false)) w → MB P S Fin E R O a w
  | stop {E : Nat → Option (List Value)} {O : Nat → Prop} {a : Goroutine} {w : World} : (∀ c, E c = none) → (∀ w2, Keeps O S w w2 → Fin a w2) → MB P S Fin E none O a w

/-! ### Memory and trace, shared out -/
theorem Keeps.refl (O S : Nat → Prop) (w : World) : Keeps O S w w := ⟨Nat.le_refl _, fun _ _ => rfl, rfl, rfl⟩
theorem Keeps.trans {O S : Nat → Prop} {w w1 w2 : World} (h : Keeps O S w w1) (k : Keeps O S w1 w2) : Keeps O S w w2 := ⟨Nat.le_trans h.size k.size, fun r hr => (k.block r hr).trans (h.block r hr), k.os.trans h.os, k.output.trans h.output⟩
structure Reg (Live : Nat → Prop) (Own : Nat → Nat → Prop) (S Ch : Nat → Prop) (W : Nat → World) (w : World) (t : Trace) : Prop where
  lie : Lie Live Own S Ch
  low : ∀ g b, Live g → Own g b → b < w.heap.size
  sLow : ∀ b, S b → b < w.heap.size
  cLow : ∀ b, Ch b → b < w.heap.size
  keeps : ∀ g, Live g → Keeps (Own g) S (W g) w
  tb : TB Live Own S Ch w.heap.size t
section
variable {Live Live' : Nat → Prop} {Own : Nat → Nat → Prop} {S Ch Ch' : Nat → Prop} {W : Nat → World} {w w1 : World} {t : Trace}
theorem Reg.heap (h : Reg Live Own S Ch W w t) (e : w1.heap = w.heap) (eo : w1.os = w.os) (eu : w1.output = w.output) : Reg Live Own S Ch W w1 t := by
  refine ⟨h.lie, ?_, ?_, ?_, fun g hg => ⟨?_, fun r hr => ?_, eo.trans (h.keeps g hg).os, eu.trans (h.keeps g hg).output⟩, ?_⟩
  · rw [e]; exact h.low
  · rw [e]; exact h.sLow
  · rw [e]; exact h.cLow
  · rw [e]; exact (h.keeps g hg).size
  · rw [e]; exact (h.keeps g hg).block r hr
  · rw [e]; exact h.tb
theorem ok_of_evW {g : Nat} {N : Nat} {fn : FuncId} {pos : String} {e : Event} (h : EvW (Own g) S e) (hlow : ∀ b, Own g b → b < N) (hs : ∀ b, S b → b < N) : OkT Own S Ch N g { g, fn, pos, act := .ofEvent e } := by
  rcases h with ⟨a, ha, hb⟩ | ⟨m, rfl, hm⟩ | ⟨r, rfl, hb⟩
  · obtain ⟨loc, wr, sy⟩ := e
    simp only at ha hb
    subst ha
    refine ⟨rfl, fun x hx _ => ?_, ?_, by simp [MemAct.ofEvent], by simp [MemAct.ofEvent]⟩
    · simp only [MemAct.ofEvent, MemAct.touch?, Option.some.injEq] at hx
      subst hx
      exact ⟨a.block, rfl, hb.imp id .inl⟩
    · exact hb.elim (hlow _) fun k => hs _ k.1
  · rcases hm with rfl | ⟨f, rfl⟩
    · exact ⟨rfl, fun x hx _ => by simp [MemAct.ofEvent, MemAct.touch?] at hx, trivial, by simp [MemAct.ofEvent], by simp [MemAct.ofEvent]⟩
    · exact ⟨rfl, fun x hx _ => by simp [MemAct.ofEvent, MemAct.touch?] at hx, trivial, by simp [MemAct.ofEvent], by simp [MemAct.ofEvent]⟩
  · refine ⟨rfl, fun x hx _ => ?_, ?_, by simp [MemAct.ofEvent], by simp [MemAct.ofEvent]⟩
    · simp only [MemAct.ofEvent, MemAct.touch?, Option.some.injEq] at hx
      subst hx
      exact ⟨r, rfl, .inl hb⟩
    · exact hlow _ hb
/-- A step of one of them. -/
theorem Reg.step (h : Reg Live Own S Ch W w t) {g : Nat} (hg : Live g) (hd : DidO (Own g) w w1) {es : Array Event} (he : ∀ e ∈ es, EvW (own (Own g) w w1) S e) (fn : FuncId) (pos : String) :
    Reg Live (put Own g (own (Own g) w w1)) S Ch (put W g w1) w1 (t ++ MemOp.ofEvents g fn pos es) := by
  have hlow : ∀ g' b, Live g' → put Own g (own (Own g) w w1) g' b → b < w1.heap.size := by
    intro g' b hg' hb
    by_cases e : g' = g
    · subst e
      rw [put_same] at hb
      rcases hb with hb | hb
      · exact Nat.lt_of_lt_of_le (h.low g' b hg hb) hd.size
      · exact hb.2
    · rw [put_ne _ _ e] at hb
      exact Nat.lt_of_lt_of_le (h.low g' b hg' hb) hd.size
  have hsl : ∀ b, S b → b < w1.heap.size := fun b hb => Nat.lt_of_lt_of_le (h.sLow b hb) hd.size
  have hcl : ∀ b, Ch b → b < w1.heap.size := fun b hb => Nat.lt_of_lt_of_le (h.cLow b hb) hd.size
  have key : ∀ g' b, Live g' → g' ≠ g → Own g' b → ¬own (Own g) w w1 b := by
    intro g' b hg' hne hb hb'
    rcases hb' with hb' | hb'
    · exact hne (h.lie.own g' g b hg' hg hb hb')
    · exact absurd (h.low g' b hg' hb) (by omega)
  have lie : Lie Live (put Own g (own (Own g) w w1)) S Ch := by
    refine ⟨fun g1 g2 b l1 l2 o1 o2 => ?_, fun g1 b l1 o1 hs => ?_, fun g1 b l1 o1 hc => ?_, h.lie.chS⟩
    · by_cases e1 : g1 = g <;> by_cases e2 : g2 = g
      · rw [e1, e2]
      · rw [e1, put_same] at o1; rw [put_ne _ _ e2] at o2; exact absurd o1 (key g2 b l2 e2 o2)
      · rw [put_ne _ _ e1] at o1; rw [e2, put_same] at o2; exact absurd o2 (key g1 b l1 e1 o1)
      · rw [put_ne _ _ e1] at o1; rw [put_ne _ _ e2] at o2; exact h.lie.own g1 g2 b l1 l2 o1 o2
    · by_cases e1 : g1 = g
      · rw [e1, put_same] at o1
        rcases o1 with o1 | o1
        · exact h.lie.ownS g b hg o1 hs
        · exact absurd (h.sLow b hs) (by omega)
      · rw [put_ne _ _ e1] at o1; exact h.lie.ownS g1 b l1 o1 hs
    · by_cases e1 : g1 = g
      · rw [e1, put_same] at o1
        rcases o1 with o1 | o1
        · exact h.lie.ownCh g b hg o1 hc
        · exact absurd (h.cLow b hc) (by omega)
      · rw [put_ne _ _ e1] at o1; exact h.lie.ownCh g1 b l1 o1 hc
  refine ⟨lie, hlow, hsl, hcl, fun g' hg' => ?_, ?_⟩
  · by_cases e : g' = g
    · subst e
      rw [put_same, put_same]
      exact Keeps.refl _ _ _
    · rw [put_ne _ _ e, put_ne _ _ e]
      refine (h.keeps g' hg').trans ⟨hd.size, fun r hr => ?_, hd.os, hd.output⟩
      rcases hr with hr | hr
      · exact hd.kept r (h.low g' r hg' hr) fun hx => e (h.lie.own g' g r hg' hg hr hx)
      · exact hd.kept r (h.sLow r hr) fun hx => h.lie.ownS g r hg hx hr
  · refine TB.app lie (h.tb.mono (fun g' b _ hb => ?_) (fun _ hb => hb) hd.size) hg fun op hop => ?_
    · by_cases e : g' = g
      · subst e; rw [put_same]; exact .inl hb
      · rw [put_ne _ _ e]; exact hb
    · obtain ⟨e, he', rfl⟩ := Conc.mem_ofEvents hop
      refine ok_of_evW ?_ (fun b hb => hlow g b hg hb) hsl
      rw [put_same]
      exact he e he'
/-- A channel changes. -/
theorem Reg.chan (h : Reg Live Own S Ch W w t) {c : Nat} (hc : Ch c) {o : Obj} (e : w1.heap = w.heap.setIfInBounds c o) (eo : w1.os = w.os) (eu : w1.output = w.output) : Reg Live Own S Ch W w1 t := by
  have hsz : w1.heap.size = w.heap.size := by rw [e]; simp
  refine ⟨h.lie, ?_, ?_, ?_, fun g hg => ⟨?_, fun r hr => ?_, eo.trans (h.keeps g hg).os, eu.trans (h.keeps g hg).output⟩, ?_⟩
  · rw [hsz]; exact h.low
  · rw [hsz]; exact h.sLow
  · rw [hsz]; exact h.cLow
  · rw [hsz]; exact (h.keeps g hg).size
  · have hne : c ≠ r := by
      rintro rfl
      rcases hr with hr | hr
      · exact h.lie.ownCh g c hg hr hc
      · exact h.lie.chS c hc hr
    rw [e, Array.getElem?_setIfInBounds_ne hne]
    exact (h.keeps g hg).block r hr
  · rw [hsz]; exact h.tb
/-- Something is done that touches nothing. -/
theorem Reg.still (h : Reg Live Own S Ch W w t) {u : Trace} (hu : ∀ op ∈ u, Still w.heap.size op) : Reg Live Own S Ch W w (t ++ u) := ⟨h.lie, h.low, h.sLow, h.cLow, h.keeps, h.tb.still hu⟩
theorem Reg.mute (h : Reg Live Own S Ch W w t) {g : Nat} (hg : ¬Live g) {u : Trace} (hu : ∀ op ∈ u, op.g = g ∧ op.act.touch? = none ∧ op.act.low w.heap.size) : Reg Live Own S Ch W w (t ++ u) := ⟨h.lie, h.low, h.sLow, h.cLow, h.keeps, h.tb.mute hg hu⟩
/-- One more is started; a channel that is nobody's becomes a channel of the company. -/
theorem Reg.fork (h : Reg Live Own S Ch W w t) (h0 : Live 0) {k : Nat} (hk : ¬Live k) (hdeaf : Deaf t k = 0) {x y : MemOp} (hx : x.g = 0 ∧ x.act = .go k) (hy : y.g = k ∧ y.act = .start) (hL : ∀ g, Live' g ↔ Live g ∨ g = k)
    {c : Nat} (hC : ∀ b, Ch' b ↔ Ch b ∨ b = c) (hc : c < w.heap.size) (hco : ∀ g, Live g → ¬Own g c) (hcs : ¬S c) : Reg Live' (put Own k fun _ => False) S Ch' (put W k w) w (t ++ #[x, y]) := by
  have ow : ∀ g b, Live' g → put Own k (fun _ => False) g b → Live g ∧ Own g b := by
    intro g b hg hb
    by_cases e : g = k
    · rw [e, put_same] at hb; exact hb.elim
    · rw [put_ne _ _ e] at hb; exact ⟨((hL g).1 hg).resolve_right e, hb⟩
  refine ⟨⟨fun g g' b l1 l2 o1 o2 => ?_, fun g b l1 o1 => ?_, fun g b l1 o1 hb => ?_, fun b hb => ?_⟩, fun g b hg hb => ?_, h.sLow, fun b hb => ?_, fun g hg => ?_, ?_⟩
  · obtain ⟨a1, a2⟩ := ow g b l1 o1
    obtain ⟨b1, b2⟩ := ow g' b l2 o2
    exact h.lie.own g g' b a1 b1 a2 b2
  · obtain ⟨a1, a2⟩ := ow g b l1 o1
    exact h.lie.ownS g b a1 a2
  · obtain ⟨a1, a2⟩ := ow g b l1 o1
    rcases (hC b).1 hb with hb | rfl
    · exact h.lie.ownCh g b a1 a2 hb
    · exact hco g a1 a2
  · rcases (hC b).1 hb with hb | rfl
    · exact h.lie.chS b hb
    · exact hcs
  · obtain ⟨a1, a2⟩ := ow g b hg hb
    exact h.low g b a1 a2
  · rcases (hC b).1 hb with hb | rfl
    · exact h.cLow b hb
    · exact hc
  · by_cases e : g = k
    · rw [e, put_same, put_same]; exact Keeps.refl _ _ _
    · rw [put_ne _ _ e, put_ne _ _ e]; exact h.keeps g (((hL g).1 hg).resolve_right e)
  · refine TB.fork (h.tb.mono (fun g b hg hb => ?_) (fun b hb => (hC b).2 (.inl hb)) (Nat.le_refl _)) h0 hdeaf hx hy hL
    have hne : g ≠ k := fun e => hk (by rw [← e]; exact hg)
    rw [put_ne _ _ hne]
    exact hb
/-- A new block that is nobody's. -/
theorem Reg.new (h : Reg Live Own S Ch W w t) {o : Obj} (e : w1.heap = w.heap.push o) (eo : w1.os = w.os) (eu : w1.output = w.output) : Reg Live Own S Ch W w1 t := by
  have hsz : w.heap.size ≤ w1.heap.size := by rw [e]; simp
  refine ⟨h.lie, fun g b hg hb => Nat.lt_of_lt_of_le (h.low g b hg hb) hsz, fun b hb => Nat.lt_of_lt_of_le (h.sLow b hb) hsz, fun b hb => Nat.lt_of_lt_of_le (h.cLow b hb) hsz, fun g hg => (h.keeps g hg).trans ⟨hsz, fun r hr => ?_, eo, eu⟩, h.tb.mono (fun _ _ _ hb => hb) (fun _ hb => hb) hsz⟩
  have hr : r < w.heap.size := hr.elim (h.low g r hg) (h.sLow r)
  rw [e, Array.getElem?_push_lt hr]
  simp [hr]
/-- Who goes on as from now. -/
theorem Reg.now (h : Reg Live Own S Ch W w t) (g : Nat) : Reg Live Own S Ch (put W g w) w t := by
  refine ⟨h.lie, h.low, h.sLow, h.cLow, fun g' hg' => ?_, h.tb⟩
  by_cases e : g' = g
  · rw [e, put_same]; exact Keeps.refl _ _ _
  · rw [put_ne _ _ e]; exact h.keeps g' hg'
end
end Go.Proofs.Ytgeoffpcmkofkaa
