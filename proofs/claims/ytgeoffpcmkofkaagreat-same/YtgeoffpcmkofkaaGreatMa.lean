/- Maps that are keyed by points and by directed sides: what their keys are. -/
import Derived.Test.YtgeoffpcmkofkaaGreatTa
import Derived.Maps.OwnSet
import Derived.Maps.RangeWalk
import Derived.Maps.Ext
import Derived.DeepKeys4
namespace Go.Proofs.YtgeoffpcmkofkaaGreat
open Go.RowKit Go.Maps Fl
set_option maxRecDepth 100000

def ptV (p : Pt) : Value := .agg #[.int .i64 p.1, .int .i64 p.2]
def edV (e : Ed) : Value := .agg #[.int .i64 e.1.1, .int .i64 e.1.2, .int .i64 e.2.1, .int .i64 e.2.2]
def CdE (e : Ed) : Prop := CdP e.1 ∧ CdP e.2

theorem types_size : Tryz.prog.types.size = 167 := by kernel_rfl
theorem law36 : Keyed Tryz.prog 36 := Keyed.of_law (deep_law_laid (m := 5) (by kernel_rfl) (by decide) (by rw [types_size]; decide) (by kernel_rfl) (by kernel_rfl))
theorem law65 : Keyed Tryz.prog 65 := Keyed.of_law (deep_law_laid (m := 5) (by kernel_rfl) (by decide) (by rw [types_size]; decide) (by kernel_rfl) (by kernel_rfl))

theorem wfI {x : Int} (h : Cd x) : (Lit.int .i64 x).wf = true := by
  obtain ⟨h1, h2⟩ := h
  simp [Lit.wf, IntKind.min, IntKind.max, IntKind.signed, IntKind.bits]
  omega
theorem keyT36 : Tryz.prog.keyType 36 = true := by kernel_rfl
theorem keyT65 : Tryz.prog.keyType 65 = true := by kernel_rfl
theorem cells36 : Tryz.prog.cellsOf 36 = 2 := by kernel_rfl
theorem cells65 : Tryz.prog.cellsOf 65 = 4 := by kernel_rfl
theorem cells3 : Tryz.prog.cellsOf 3 = 1 := by kernel_rfl

theorem lits3 (d : Nat) {x : Int} (h : Cd x) : Tryz.prog.keyLits (d + 1) 3 [.int .i64 x] = some [.int .i64 x] := by
  simp [Program.keyLits, Tryz.underlying3, wfI h]
theorem lits36 (d : Nat) {p : Pt} (h : CdP p) : Tryz.prog.keyLits (d + 2) 36 [.int .i64 p.1, .int .i64 p.2] = some [.int .i64 p.1, .int .i64 p.2] := by
  unfold Program.keyLits
  rw [Tryz.underlying36]
  simp [cells36, cells3, lits3 d h.1, lits3 d h.2]
theorem lits65 (d : Nat) {e : Ed} (h : CdE e) : Tryz.prog.keyLits (d + 3) 65 [.int .i64 e.1.1, .int .i64 e.1.2, .int .i64 e.2.1, .int .i64 e.2.2] = some [.int .i64 e.1.1, .int .i64 e.1.2, .int .i64 e.2.1, .int .i64 e.2.2] := by
  unfold Program.keyLits
  rw [Tryz.underlying65]
  simp [cells36, cells65, List.range, List.range.loop, lits36 d h.1, lits36 d h.2]

def litP (p : Pt) : Lit := .string (keyBytes [.int .i64 p.1, .int .i64 p.2])
def litE (e : Ed) : Lit := .string (keyBytes [.int .i64 e.1.1, .int .i64 e.1.2, .int .i64 e.2.1, .int .i64 e.2.2])
theorem key36 {p : Pt} (h : CdP p) : keyOf Tryz.prog 36 (ptV p) = some (litP p) := by
  unfold keyOf ptV litP
  rw [Tryz.underlying36]
  simp [keyT36, Value.formed, Tryz.underlying36, cells36, Value.cells, lits36 166 h]
theorem key65 {e : Ed} (h : CdE e) : keyOf Tryz.prog 65 (edV e) = some (litE e) := by
  unfold keyOf edV litE
  rw [Tryz.underlying65]
  simp [keyT65, Value.formed, Tryz.underlying65, cells65, Value.cells, lits65 165 h]
theorem ptV_inj {p q : Pt} (h : ptV p = ptV q) : p = q := by
  simp [ptV] at h; exact pt_ext h.1 h.2
theorem edV_inj {e f : Ed} (h : edV e = edV f) : e = f := by
  simp [edV] at h; exact Prod.ext (pt_ext h.1 h.2.1) (pt_ext h.2.2.1 h.2.2.2)
theorem litP_inj {p q : Pt} (hp : CdP p) (hq : CdP q) (h : litP p = litP q) : p = q := ptV_inj (law36.inj (key36 hp) (by rw [h]; exact key36 hq))
theorem litE_inj {e f : Ed} (he : CdE e) (hf : CdE f) (h : litE e = litE f) : e = f := edV_inj (law65.inj (key65 he) (by rw [h]; exact key65 hf))
theorem litP_key {p : Pt} (h : CdP p) : WideAt.IsKeyLit (litP p) := law36.key (key36 h)
theorem litE_key {e : Ed} (h : CdE e) : WideAt.IsKeyLit (litE e) := law65.key (key65 h)

end Go.Proofs.YtgeoffpcmkofkaaGreat
