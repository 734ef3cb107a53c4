/- Mh: texts laid into one. -/
import Derived.Test.YtgeoffpcmkofkaaRat
import Derived.Test.YtgeoffpcmkofkaaRay
/- The functions that the main goroutine calls are plain. -/
namespace Go.Proofs.Ytgeoffpcmkofkaa
open Go Go.Conc
set_option maxRecDepth 100000

section
variable (P : Program) (fs : FuncId → Bool)
def opPB : Op → Bool
  | .move _ | .assign _ | .pick _ _ _ | .alloc _ | .box _ _ | .build _ _ | .buildSlice _ _ _ | .load _ _ | .store _ _ _ | .unOp _ _ _ | .makeInterface _ _ | .extract _ _ | .panic _ | .makeSlice _ _ _ | .indexAddr _ _ _ | .index _ _ _ | .binOp _ _ _ _ _ | .slice _ _ _ _ _ | .fieldAddr _ _ _ | .lookup _ _ _ _ | .makeMap _ _ | .mapUpdate _ _ _ _ => true
  | .convert s d _ => numB P s && numB P d
  | .call c => match c.callee with
    | .value (.func f) => fs f
    | .builtin b => match b with
      | .append | .cap | .len | .clear | .copy | .min => true
      | _ => false
    | _ => false
  | _ => false
def codePB : Code → Bool
  | .region _ ops _ => ops.toList.all fun o => opPB P fs o.op
  | .seq a b => codePB a && codePB b
  | .cond _ a b => codePB a && codePB b
  | .block _ b | .loop b => codePB b
  | .skip | .exit _ | .ret => true
  | _ => false
def funcPB (f : FuncId) : Bool := match P.funcs[f]? with
  | none => false
  | some fn => !(fn.name == "runtime.NumGoroutine") && (match fn.body with | some c => codePB P fs c | none => f == 92 || f == 93 || f == 104)
end
section
variable {P : Program} {fs : FuncId → Bool}
theorem opP_sound {op : Op} (h : opPB P fs op = true) : OpP P (FSof fs) op := by
  cases op <;> first | trivial | (cases h; done) | skip
  case convert s d x =>
    simp only [opPB, Bool.and_eq_true] at h
    exact ⟨num_sound h.1, num_sound h.2⟩
  case call c =>
    simp only [opPB] at h
    simp only [OpP]
    cases hc : c.callee with
    | value x =>
      rw [hc] at h
      cases x <;> first | (cases h; done) | exact h
    | builtin b =>
      rw [hc] at h
      cases b <;> first | (cases h; done) | simp
    | invoke r n => rw [hc] at h; cases h
theorem codeP_sound : ∀ {c : Code}, codePB P fs c = true → CodeP P (FSof fs) c
  | .region _ ops _, h => fun o ho => opP_sound (List.all_eq_true.1 h o ho)
  | .seq a b, h => by
    simp only [codePB, Bool.and_eq_true] at h
    exact ⟨codeP_sound h.1, codeP_sound h.2⟩
  | .cond _ a b, h => by
    simp only [codePB, Bool.and_eq_true] at h
    exact ⟨codeP_sound h.1, codeP_sound h.2⟩
  | .block _ b, h => codeP_sound (c := b) h
  | .loop b, h => codeP_sound (c := b) h
  | .skip, _ | .exit _, _ | .ret, _ => trivial
  | .scope _, h | .rangeFunc .., h | .label _, h | .goto _, h | .refuse _, h => by cases h
theorem pt_frombits (xs : Array Value) : PT P (Extern.MathFloatBits.float64frombits xs) := by
  obtain ⟨l⟩ := xs
  rcases l with _ | ⟨a, _ | ⟨b, l⟩⟩
  · exact pt_stuck _
  · cases a <;> first | exact pt_stuck _ | skip
    rename_i k n
    cases k <;> first | exact pt_stuck _ | exact .pure trivial
  · exact pt_stuck _
theorem pt_bits (xs : Array Value) : PT P (Extern.MathFloatBits.float64bits xs) := by
  obtain ⟨l⟩ := xs
  rcases l with _ | ⟨a, _ | ⟨b, l⟩⟩
  · exact pt_stuck _
  · cases a <;> first | exact pt_stuck _ | skip
    rename_i k n
    cases k <;> first | exact pt_stuck _ | exact .pure trivial
  · exact pt_stuck _
theorem pt_fma3 (x y z : Nat) : PT P (Extern.MathFMA.fma #[.float .f64 x, .float .f64 y, .float .f64 z]) := by
  show PT P (match FloatKind.f64.format.fma x y z with | some r => pure (Value.float .f64 r) | none => _)
  cases FloatKind.f64.format.fma x y z with
  | some r => exact .pure trivial
  | none => exact .choose fun n => .pure trivial
theorem pt_fma (xs : Array Value) : PT P (Extern.MathFMA.fma xs) := by
  obtain ⟨l⟩ := xs
  rcases l with _ | ⟨a, _ | ⟨b, _ | ⟨c, _ | ⟨d, l⟩⟩⟩⟩
  · exact pt_stuck _
  · exact pt_stuck _
  · exact pt_stuck _
  · cases a <;> first | exact pt_stuck _ | skip
    rename_i k1 x
    cases k1 <;> first | exact pt_stuck _ | skip
    cases b <;> first | exact pt_stuck _ | skip
    rename_i k2 y
    cases k2 <;> first | exact pt_stuck _ | skip
    cases c <;> first | exact pt_stuck _ | skip
    rename_i k3 z
    cases k3 <;> first | exact pt_stuck _ | exact pt_fma3 x y z
  · exact pt_stuck _
end
def fsI (f : Nat) : Bool := (3 ≤ f && f ≤ 8) || (11 ≤ f && f ≤ 31) || (33 ≤ f && f ≤ 53) || (55 ≤ f && f ≤ 69) || (72 ≤ f && f ≤ 85) || (87 ≤ f && f ≤ 90) || (92 ≤ f && f ≤ 100) || (102 ≤ f && f ≤ 106) || f == 108 || f == 113 || f == 117 || f == 118 || f == 120
theorem funcsP_ok : ((List.range 125).all fun f => !fsI f || funcPB Try.prog fsI f) = true := by decide +kernel
theorem fsI_lt {f : Nat} (h : fsI f = true) : f < 125 := by
  simp only [fsI, Bool.or_eq_true, Bool.and_eq_true, beq_iff_eq, decide_eq_true_eq] at h
  omega
theorem funcP_ok {f : FuncId} (h : fsI f = true) : funcPB Try.prog fsI f = true := by
  have := List.all_eq_true.1 funcsP_ok f (List.mem_range.2 (fsI_lt h))
  simpa [h] using this
theorem funcP_parts {f : FuncId} (h : fsI f = true) : ∃ fn, Try.prog.funcs[f]? = some fn ∧ (fn.name == "runtime.NumGoroutine") = false ∧ (∀ c, fn.body = some c → codePB Try.prog fsI c = true) ∧ (fn.body = none → f = 92 ∨ f = 93 ∨ f = 104) := by
  have := funcP_ok h
  unfold funcPB at this
  split at this
  · cases this
  · rename_i fn hfn
    simp only [Bool.and_eq_true, Bool.not_eq_true'] at this
    obtain ⟨h1, h3⟩ := this
    refine ⟨fn, hfn, h1, fun c hc => by rw [hc] at h3; exact h3, fun hn => ?_⟩
    rw [hn] at h3
    simpa [or_assoc] using h3
theorem bodP : BodP Try.prog (FSof fsI) where
  func := fun f hf => by
    obtain ⟨fn, h1, h2, _, h5⟩ := funcP_parts hf
    refine ⟨fn, h1, h2, ?_⟩
    cases hb : fn.body with
    | some c => exact .inl rfl
    | none =>
      refine .inr ⟨rfl, ?_⟩
      rcases h5 hb with rfl | rfl | rfl
      · have e : fn = Try.f92 := by rw [Try.func92] at h1; injection h1 with e; exact e.symm
        subst e
        exact ⟨next92, _, find92, pt_frombits⟩
      · have e : fn = Try.f93 := by rw [Try.func93] at h1; injection h1 with e; exact e.symm
        subst e
        exact ⟨next93, _, find93, pt_bits⟩
      · have e : fn = Try.f104 := by rw [Try.func104] at h1; injection h1 with e; exact e.symm
        subst e
        exact ⟨next104, _, find104, pt_fma⟩
  body := fun f hf fn hfn c hc => by
    obtain ⟨fn', h1, _, h4, _⟩ := funcP_parts hf
    rw [hfn] at h1
    injection h1 with h1
    subst h1
    exact codeP_sound (h4 c hc)
end Go.Proofs.Ytgeoffpcmkofkaa
