/- Kt: texts laid into one. -/
import Derived.Test.YtgeoffpcmkofkaaProg
import Derived.Test.YtgeoffpcmkofkaaRas
/- The functions that a part's goroutine reaches are tame. -/
namespace Go.Proofs.Ytgeoffpcmkofkaa
open Go
set_option maxRecDepth 100000

def fsB (f : Nat) : Bool := f == 37 || f == 56 || f == 57 || f == 70 || (72 ≤ f && f ≤ 78) || (85 ≤ f && f ≤ 89) || (92 ≤ f && f ≤ 124)
def funcB (P : Program) (fs : FuncId → Bool) (f : FuncId) : Bool := match P.funcs[f]? with
  | none => false
  | some fn => !(fn.name == "runtime.NumGoroutine") && !fn.norace && (fn.results.toList.all fun r => match r with | .tmp _ => true | _ => false) && (match fn.body with | some c => codeB P fs c | none => f == 92 || f == 93 || f == 104)
theorem funcs_ok : ((List.range 125).all fun f => !fsB f || funcB Try.prog fsB f) = true := by decide +kernel
theorem fs_lt {f : Nat} (h : fsB f = true) : f < 125 := by
  simp only [fsB, Bool.or_eq_true, Bool.and_eq_true, beq_iff_eq, decide_eq_true_eq] at h
  omega
theorem func_ok {f : FuncId} (h : fsB f = true) : funcB Try.prog fsB f = true := by
  have := List.all_eq_true.1 funcs_ok f (List.mem_range.2 (fs_lt h))
  simpa [h] using this
theorem func_there {f : FuncId} (h : fsB f = true) : ∃ fn, Try.prog.funcs[f]? = some fn := by
  have := func_ok h
  unfold funcB at this
  split at this
  · cases this
  · rename_i fn hfn; exact ⟨fn, hfn⟩
theorem func_parts {f : FuncId} (h : fsB f = true) {fn : Func} (hfn : Try.prog.funcs[f]? = some fn) : (fn.name == "runtime.NumGoroutine") = false ∧ fn.norace = false ∧ (fn.results.toList.all fun r => match r with | .tmp _ => true | _ => false) = true ∧ (∀ c, fn.body = some c → codeB Try.prog fsB c = true) ∧ (fn.body = none → f = 92 ∨ f = 93 ∨ f = 104) := by
  have := func_ok h
  unfold funcB at this
  rw [hfn] at this
  simp only [Bool.and_eq_true, Bool.not_eq_true'] at this
  obtain ⟨⟨⟨h1, h2⟩, h3⟩, h4⟩ := this
  refine ⟨h1, h2, h3, fun c hc => by rw [hc] at h4; exact h4, fun hn => ?_⟩
  rw [hn] at h4
  simpa [or_assoc] using h4
theorem bodies {G : Nat} : BodiesOK G (FSof fsB) Try.prog where
  body := fun f hf fn hfn c hc => code_sound ((func_parts hf hfn).2.2.2.1 c hc)
  res := fun f hf fn hfn r hr => by
    have := List.all_eq_true.1 (func_parts hf hfn).2.2.1 r hr
    cases r with
    | tmp t => exact ⟨t, rfl⟩
    | cell _ _ => cases this
  loud := fun f hf fn hfn => (func_parts hf hfn).2.1
  there := fun f hf => func_there hf
theorem readies_none : (Try.prog.funcs.toList.all fun f => match f.body with | none => true | some c => (readies c).isEmpty) = true := by decide +kernel
theorem noEarly : NoEarly Try.prog where
  follows := by decide +kernel
  none := fun g => by
    unfold Program.stepOf
    rw [Array.findIdx?_eq_none_iff]
    intro f hf
    have := List.all_eq_true.1 readies_none f (by simpa using hf)
    cases hb : f.body with
    | none => simp
    | some c =>
      rw [hb] at this
      have : readies c = [] := by simpa using this
      simp [this]
section
variable {G : Nat} {FS : FuncId → Prop} {P : Program} {B : BR}
theorem r_frombits {xs xs' : Array Value} (h : VRs G FS B xs.toList xs'.toList) : SemR (G := G) (FS := FS) P (VQ G FS) B (Extern.MathFloatBits.float64frombits xs) (Extern.MathFloatBits.float64frombits xs') := by
  obtain ⟨l⟩ := xs
  obtain ⟨l'⟩ := xs'
  simp only at h
  cases h with
  | nil => exact r_stuck _ _
  | cons hv ht =>
    cases ht with
    | cons h1 h2 => exact r_stuck _ _
    | nil =>
      cases hv <;> first | exact r_stuck _ _ | skip
      rename_i k n
      cases k <;> first | exact r_stuck _ _ | exact r_pure (.float _ _)
theorem r_bits {xs xs' : Array Value} (h : VRs G FS B xs.toList xs'.toList) : SemR (G := G) (FS := FS) P (VQ G FS) B (Extern.MathFloatBits.float64bits xs) (Extern.MathFloatBits.float64bits xs') := by
  obtain ⟨l⟩ := xs
  obtain ⟨l'⟩ := xs'
  simp only at h
  cases h with
  | nil => exact r_stuck _ _
  | cons hv ht =>
    cases ht with
    | cons h1 h2 => exact r_stuck _ _
    | nil =>
      cases hv <;> first | exact r_stuck _ _ | skip
      rename_i k n
      cases k <;> first | exact r_stuck _ _ | exact r_pure (.int _ _)
theorem fma_three (x y z : Nat) : SemR (G := G) (FS := FS) P (VQ G FS) B (Extern.MathFMA.fma #[.float .f64 x, .float .f64 y, .float .f64 z]) (Extern.MathFMA.fma #[.float .f64 x, .float .f64 y, .float .f64 z]) := by
  show SemR P (VQ G FS) B (match FloatKind.f64.format.fma x y z with | some r => pure (.float .f64 r) | none => _) (match FloatKind.f64.format.fma x y z with | some r => pure (.float .f64 r) | none => _)
  cases FloatKind.f64.format.fma x y z with
  | some r => exact r_pure (.float _ _)
  | none => exact .choose fun n => .pure (.float _ _)
theorem r_fma {xs xs' : Array Value} (h : VRs G FS B xs.toList xs'.toList) : SemR (G := G) (FS := FS) P (VQ G FS) B (Extern.MathFMA.fma xs) (Extern.MathFMA.fma xs') := by
  obtain ⟨l⟩ := xs
  obtain ⟨l'⟩ := xs'
  simp only at h
  cases h with
  | nil => exact r_stuck _ _
  | cons h1 h =>
  cases h with
  | nil => exact r_stuck _ _
  | cons h2 h =>
  cases h with
  | nil => exact r_stuck _ _
  | cons h3 h =>
  cases h with
  | cons _ _ => exact r_stuck _ _
  | nil =>
    cases h1 <;> first | exact r_stuck _ _ | skip
    rename_i k1 x
    cases k1 <;> first | exact r_stuck _ _ | skip
    cases h2 <;> first | exact r_stuck _ _ | skip
    rename_i k2 y
    cases k2 <;> first | exact r_stuck _ _ | skip
    cases h3 <;> first | exact r_stuck _ _ | skip
    rename_i k3 z
    cases k3 <;> first | exact r_stuck _ _ | skip
    exact fma_three x y z
end
theorem next92 : Extern.findNext Try.f92 = none := by decide +kernel
theorem next93 : Extern.findNext Try.f93 = none := by decide +kernel
theorem next104 : Extern.findNext Try.f104 = none := by decide +kernel
theorem find92 : Extern.find Try.f92 = some Extern.MathFloatBits.float64frombits := by kernel_rfl
theorem find93 : Extern.find Try.f93 = some Extern.MathFloatBits.float64bits := by kernel_rfl
theorem find104 : Extern.find Try.f104 = some Extern.MathFMA.fma := by kernel_rfl
theorem openOK {G : Nat} (hG : Try.prog.globals.size ≤ G) : OpenOK G (FSof fsB) Try.prog where
  glob := hG
  funcs := fun f hf fn hfn => by
    obtain ⟨h1, _, _, _, h5⟩ := func_parts hf hfn
    refine ⟨h1, ?_⟩
    cases hb : fn.body with
    | some c => exact .inl rfl
    | none =>
      refine .inr ⟨rfl, ?_⟩
      rcases h5 hb with rfl | rfl | rfl
      · have e : fn = Try.f92 := by rw [Try.func92] at hfn; injection hfn with e; exact e.symm
        subst e
        exact ⟨next92, _, find92, fun B xs xs' h => r_frombits h⟩
      · have e : fn = Try.f93 := by rw [Try.func93] at hfn; injection hfn with e; exact e.symm
        subst e
        exact ⟨next93, _, find93, fun B xs xs' h => r_bits h⟩
      · have e : fn = Try.f104 := by rw [Try.func104] at hfn; injection hfn with e; exact e.symm
        subst e
        exact ⟨next104, _, find104, fun B xs xs' h => r_fma h⟩
end Go.Proofs.Ytgeoffpcmkofkaa
