/- The walks of package expansion's small functions. -/
import Derived.Test.YtgeoffpcmkofkaaProg
import Derived.Test.YtgeoffpcmkofkaaExp
import Derived.WalkKit
import Derived.WalkSpells
import Derived.WalkLawsBesides
namespace Go.Proofs.Ytgeoffpcmkofkaa
open Go.RowKit Fl
set_option maxRecDepth 100000

theorem fadd {a b r : Nat} (h : Ieee.double.add a b = some r) (t : TypeId) (w : World) : (binOp .add t (.float .f64 a) (.float .f64 b)).run Try.prog w = .ok (.float .f64 r) w := run_float_arith w .add t .f64 a b r h
theorem fsub {a b r : Nat} (h : Ieee.double.sub a b = some r) (t : TypeId) (w : World) : (binOp .sub t (.float .f64 a) (.float .f64 b)).run Try.prog w = .ok (.float .f64 r) w := run_float_arith w .sub t .f64 a b r h
theorem fmul {a b r : Nat} (h : Ieee.double.mul a b = some r) (t : TypeId) (w : World) : (binOp .mul t (.float .f64 a) (.float .f64 b)).run Try.prog w = .ok (.float .f64 r) w := run_float_arith w .mul t .f64 a b r h

set_option maxHeartbeats 400000 in
theorem splitSum_walk (a b s bb aa da db l : Nat) (w : World) (h1 : Ieee.double.add a b = some s) (h2 : Ieee.double.sub s a = some bb) (h3 : Ieee.double.sub s bb = some aa) (h4 : Ieee.double.sub a aa = some da) (h5 : Ieee.double.sub b bb = some db) (h6 : Ieee.double.add da db = some l) :
    Calls Try.prog 105 #[.float .f64 a, .float .f64 b] w fun e w' => e = .returned (.tuple #[.float .f64 s, .float .f64 l]) ∧ w' = w := by
  have g1 := fadd h1 81
  have g2 := fsub h2 81
  have g3 := fsub h3 81
  have g4 := fsub h4 81
  have g5 := fsub h5 81
  have g6 := fadd h6 81
  clear h1 h2 h3 h4 h5 h6
  go_enter Try.func105, Try.ntmps105
  go_wp2
  go_ret2
  exact ⟨rfl, rfl⟩

theorem splitSum_any (a b : Nat × Int) (w : World) (ha : F a.1 a.2 0) (hb : F b.1 b.2 0) (ra : Rep a.2) (rb : Rep b.2) (hm : (a.2.natAbs : Int) + b.2.natAbs < Mid) :
    Calls Try.prog 105 #[.float .f64 a.1, .float .f64 b.1] w fun e w' => ∃ s l : Nat × Int, e = .returned (.tuple #[.float .f64 s.1, .float .f64 l.1]) ∧ w' = w ∧ Rnd (a.2 + b.2) s.2 ∧ F s.1 s.2 0 ∧ l.2 = a.2 + b.2 - s.2 ∧ F l.1 l.2 0 := by
  have hB := Big_eq
  have h0 := Mid_pos
  have ba : (a.2.natAbs : Int) ≤ Mid := by omega
  have bb' : (b.2.natAbs : Int) ≤ Mid := by omega
  generalize Mid = M at hB h0 ba bb'
  clear hm
  have t1 := add_bd ba bb'
  obtain ⟨s, zs, e1, q1, f1⟩ := ha.add hb (by omega) (Int.lt_of_le_of_lt t1 (by omega))
  have u1 := q1.bd t1
  have t2 := sub_bd u1 ba
  obtain ⟨bb, zbb, e2, q2, f2⟩ := f1.sub ha (by omega) (Int.lt_of_le_of_lt t2 (by clear t1 u1; omega))
  have u2 := q2.bd t2
  have t3 := sub_bd u1 u2
  obtain ⟨aa, zaa, e3, q3, f3⟩ := f1.sub f2 (by omega) (Int.lt_of_le_of_lt t3 (by clear t1 u1 t2 u2 t3; omega))
  have u3 := q3.bd t3
  have t4 := sub_bd ba u3
  obtain ⟨da, zda, e4, q4, f4⟩ := ha.sub f3 (by omega) (Int.lt_of_le_of_lt t4 (by clear t1 u1 t2 u2 t3 u3 t4; omega))
  have u4 := q4.bd t4
  have t5 := sub_bd bb' u2
  obtain ⟨db, zdb, e5, q5, f5⟩ := hb.sub f2 (by omega) (Int.lt_of_le_of_lt t5 (by clear t1 u1 t2 u2 t3 u3 t4 u4 t5; omega))
  have u5 := q5.bd t5
  have t6 := add_bd u4 u5
  obtain ⟨l, zl, e6, q6, f6⟩ := f4.add f5 (by omega) (Int.lt_of_le_of_lt t6 (by clear t1 u1 t2 u2 t3 u3 t4 u4 t5 u5 t6; omega))
  refine (splitSum_walk _ _ s bb aa da db l w e1 e2 e3 e4 e5 e6).mono ?_
  rintro e w' ⟨rfl, rfl⟩
  exact ⟨(s, zs), (l, zl), rfl, rfl, q1, f1, two_sum ra rb q1 q2 q3 q4 q5 q6, f6⟩

theorem fneg (b : Nat) (w : World) : (Op.unary .neg (.float .f64 b)).run Try.prog w = .ok (.float .f64 (ng b)) w := rfl

theorem fma_run {a b c r : Nat} (h : Ieee.double.fma a b c = some r) (w : World) : (callFunc 104 #[.float .f64 a, .float .f64 b, .float .f64 c]).run Try.prog w = .ok (.value (.float .f64 r)) w := by
  have hh : FloatKind.f64.format.fma a b c = some r := h
  have e : Extern.MathFMA.fma #[.float .f64 a, .float .f64 b, .float .f64 c] = pure (.float .f64 r) := by
    show (match FloatKind.f64.format.fma a b c with | some r => (pure (Value.float .f64 r) : Sem Value) | none => _) = _
    rw [hh]
  rw [run_callFunc_extern (fn := Try.f104) (e := Extern.MathFMA.fma) (by kernel_rfl) (by kernel_rfl) (by kernel_rfl) (by kernel_rfl) (by kernel_rfl), e]
  rfl

set_option maxHeartbeats 400000 in
theorem splitProduct_walk (a b s l : Nat) (w : World) (h1 : Ieee.double.mul a b = some s) (h2 : Ieee.double.fma a b (ng s) = some l) :
    Calls Try.prog 95 #[.float .f64 a, .float .f64 b] w fun e w' => e = .returned (.tuple #[.float .f64 s, .float .f64 l]) ∧ w' = w := by
  have g1 := fmul h1 81
  have g2 := fun w => fma_run h2 w
  have g3 := fneg
  clear h1 h2
  go_enter Try.func95, Try.ntmps95
  go_wp2
  go_ret2
  exact ⟨rfl, rfl⟩

theorem splitProduct_any (a b : Nat × Int) (w : World) (ha : F a.1 a.2 0) (hb : F b.1 b.2 0) (ra : Rep a.2) (rb : Rep b.2) (hm : ((a.2 * b.2).natAbs : Int) ≤ Mid) :
    Calls Try.prog 95 #[.float .f64 a.1, .float .f64 b.1] w fun e w' => ∃ s l : Nat × Int, e = .returned (.tuple #[.float .f64 s.1, .float .f64 l.1]) ∧ w' = w ∧ Rnd (a.2 * b.2) s.2 ∧ F s.1 s.2 0 ∧ l.2 = a.2 * b.2 - s.2 ∧ F l.1 l.2 0 ∧ Rep l.2 := by
  have hB := Big_eq
  have h0 := Mid_pos
  generalize Mid = M at hB h0 hm
  obtain ⟨s, zs, e1, q1, f1⟩ := ha.mul hb (by omega) (Int.lt_of_le_of_lt hm (by omega))
  have u1 := q1.bd hm
  have hn := f1.neg
  have t2 : ((a.2 * b.2 + -zs).natAbs : Int) ≤ M + 2 * M := add_bd hm (by omega)
  obtain ⟨l, zl, e2, q2, f2⟩ := ha.fma hb hn (Int.lt_of_le_of_lt t2 (by omega))
  have hr := q1.prod_rep ra rb
  have e3 : a.2 * b.2 + -zs = a.2 * b.2 - zs := by omega
  rw [e3] at q2
  have e4 := q2.exact hr
  refine (splitProduct_walk _ _ s l w e1 e2).mono ?_
  rintro e w' ⟨rfl, rfl⟩
  exact ⟨(s, zs), (l, zl), rfl, rfl, q1, f1, e4, f2, by rw [e4]; exact hr⟩

theorem bits_run (b : Nat) (w : World) : (callFunc 93 #[.float .f64 b]).run Try.prog w = .ok (.value (.int .u64 b)) w := by
  rw [run_callFunc_extern (fn := Try.f93) (e := Extern.MathFloatBits.float64bits) (by kernel_rfl) (by kernel_rfl) (by kernel_rfl) (by kernel_rfl) (by kernel_rfl)]
  rfl
theorem frombits_run (b : Nat) (w : World) : (callFunc 92 #[.int .u64 b]).run Try.prog w = .ok (.value (.float .f64 b)) w := by
  rw [run_callFunc_extern (fn := Try.f92) (e := Extern.MathFloatBits.float64frombits) (by kernel_rfl) (by kernel_rfl) (by kernel_rfl) (by kernel_rfl) (by kernel_rfl)]
  rfl

theorem andNot_ab (b : Nat) (h : b < 2 ^ 64) : bits .andNot .u64 b 9223372036854775808 = (ab b : Int) := by
  rw [u64_andNot _ _ (by omega) (by omega) (by omega) (by omega)]
  have e2 : (b : Int).toNat &&& (18446744073709551615 - (9223372036854775808 : Int).toNat) = ab b := by
    have : (18446744073709551615 - (9223372036854775808 : Int).toNat) = 2 ^ 63 - 1 := by decide
    rw [this, Nat.and_two_pow_sub_one_eq_mod]; rfl
  rw [e2]

set_option maxHeartbeats 400000 in
theorem abs_walk (b : Nat) (w : World) (h : b < 2 ^ 64) :
    Calls Try.prog 74 #[.float .f64 b] w fun e w' => e = .returned (.float .f64 (ab b)) ∧ w' = w := by
  have g1 := bits_run
  have g2 : ∀ w, (callFunc 92 #[.int .u64 (bits .andNot .u64 b 9223372036854775808)]).run Try.prog w = .ok (.value (.float .f64 (ab b))) w := fun w => by rw [andNot_ab b h]; exact frombits_run _ w
  clear h
  go_enter Try.func74, Try.ntmps74
  go_wp2
  go_ret
  exact ⟨rfl, rfl⟩

end Go.Proofs.Ytgeoffpcmkofkaa
