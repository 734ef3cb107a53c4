/- The walks of package side: 'roughApart', 'signBeyond', 'roughSide'. -/
import Derived.Test.YtgeoffpcmkofkaaWf
import Derived.Test.YtgeoffpcmkofkaaErr
import Derived.Deep.QuietTactic
import Derived.BigQuiet
namespace Go.Proofs.Ytgeoffpcmkofkaa
open Go.RowKit Fl
set_option maxRecDepth 100000

theorem New.refl (w : World) : New w w := World.grownBy.refl w none
theorem New.alloc (w : World) (o : Obj) : New w (w.alloc o) := World.grownBy_alloc w o none
theorem New.alloc' {w w1 : World} (h : New w w1) (o : Obj) : New w (w1.alloc o) := h.trans' (New.alloc w1 o)
theorem New.drewN {w w1 : World} (h : New w w1) (n : Nat) : New w (w1.drewN n) := ⟨h.os, h.tape, h.output, h.size, h.block⟩

/-- A coordinate. -/
def Cd (n : Int) : Prop := -9007199254740992 ≤ n ∧ n ≤ 9007199254740992

theorem Cd.co {n : Int} (h : Cd n) : Co (floatOfInt .f64 n, n) := by
  have h1 : (n.natAbs : Int) ≤ 9007199254740992 := by have := h.1; have := h.2; omega
  have e : (2 : Int) ^ 53 = 9007199254740992 := by decide
  exact ⟨F.ofInt n (by rw [e]; exact h1), h1⟩

set_option maxHeartbeats 400000 in
theorem roughApart_walk (px py fx fy : Int) (rx ry : Nat) (w : World) (h1 : Ieee.double.sub (floatOfInt .f64 px) (floatOfInt .f64 fx) = some rx) (h2 : Ieee.double.sub (floatOfInt .f64 py) (floatOfInt .f64 fy) = some ry) :
    Calls Try.prog 72 #[.agg #[.int .i64 px, .int .i64 py], .agg #[.int .i64 fx, .int .i64 fy]] w fun e w' => e = .returned (.tuple #[.float .f64 rx, .float .f64 ry]) ∧ New w w' := by
  have g1 := fsub h1 81
  have g2 := fsub h2 81
  clear h1 h2
  go_enter Try.func72, Try.ntmps72
  go_wp2
  go_quiet (fail)
  go_wp2
  go_ret2
  exact ⟨rfl, by
    refine New.drewN ?_ _
    exact (New.alloc _ _).alloc' _⟩

/-- A difference, rounded. -/
structure Df (X : Int) (r : Nat × Int) : Prop where
  word : F r.1 r.2 0
  rnd : Rnd X r.2
  small : (r.2.natAbs : Int) ≤ 36028797018963968

theorem df_of {p f : Int} (hp : Cd p) (hf : Cd f) : ∃ r : Nat × Int, Ieee.double.sub (floatOfInt .f64 p) (floatOfInt .f64 f) = some r.1 ∧ Df (p - f) r := by
  have h0 : (36028797018963968 : Int) < Big := Int.lt_trans (show (36028797018963968 : Int) < 2 ^ 56 by decide) (p2_lt_Big (by omega))
  have hs : ((p - f).natAbs : Int) ≤ 18014398509481984 := by have := hp.1; have := hp.2; have := hf.1; have := hf.2; omega
  obtain ⟨r, z, e1, q1, f1⟩ := hp.co.word.sub hf.co.word (by omega) (by simp only; omega)
  exact ⟨(r, z), e1, f1, q1, by have := q1.bd hs; simp only; omega⟩

theorem roughApart_any (px py fx fy : Int) (w : World) (h1 : Cd px) (h2 : Cd py) (h3 : Cd fx) (h4 : Cd fy) :
    Calls Try.prog 72 #[.agg #[.int .i64 px, .int .i64 py], .agg #[.int .i64 fx, .int .i64 fy]] w fun e w' => ∃ rx ry : Nat × Int, e = .returned (.tuple #[.float .f64 rx.1, .float .f64 ry.1]) ∧ Hid (New w w' ∧ Df (px - fx) rx ∧ Df (py - fy) ry) := by
  obtain ⟨rx, e1, d1⟩ := df_of h1 h3
  obtain ⟨ry, e2, d2⟩ := df_of h2 h4
  refine (roughApart_walk px py fx fy rx.1 ry.1 w e1 e2).mono ?_
  rintro e w' ⟨rfl, hn⟩
  exact ⟨rx, ry, rfl, hn, d1, d2⟩

theorem order_of {a b : Nat} {x y : Int} {k : Nat} (ha : F a x k) (hb : F b y k) : FloatKind.f64.format.order a b = some (compare x y) := ha.order hb

set_option maxHeartbeats 400000 in
theorem signBeyond_any (v s : Nat) (x S : Int) (c : Nat) (w : World) (hv : F v x 0) (hs : F s S c) :
    Calls Try.prog 73 #[.float .f64 v, .float .f64 s] w fun e w' => ∃ (sg : Int) (b : Bool), e = .returned (.tuple #[.int .i64 sg, .bool b]) ∧ w = w' ∧ Hid (b = true → (sg = 1 ∧ S < x * 2 ^ c) ∨ (sg = -1 ∧ x * 2 ^ c < -S)) := by
  have hx : F v (x * 2 ^ c) c := by have := hv.scale c; rwa [Nat.zero_add] at this
  have o1 := order_of hx hs
  have o2 := order_of hx hs.neg
  have hng := fneg
  clear hv hs hx
  by_cases h1 : S < x * 2 ^ c
  · have t1 : (FloatKind.f64.format.order v s == some .gt) = true := by rw [o1, Int.compare_eq_gt.2 h1]; rfl
    clear o1 o2
    have H1 : Hid (S < x * 2 ^ c) := h1
    clear h1
    go_enter Try.func73, Try.ntmps73
    go_wp2
    go_ret2
    exact ⟨1, true, rfl, rfl, fun _ => Or.inl ⟨rfl, H1.out⟩⟩
  · have t1 : (FloatKind.f64.format.order v s == some .gt) = false := by
      rw [o1]
      have : compare (x * 2 ^ c) S ≠ .gt := fun h => h1 (Int.compare_eq_gt.1 h)
      cases h : compare (x * 2 ^ c) S <;> simp_all
    by_cases h2 : x * 2 ^ c < -S
    · have t2 : (FloatKind.f64.format.order v (ng s) == some .lt) = true := by rw [o2, Int.compare_eq_lt.2 h2]; rfl
      have H2 : Hid (x * 2 ^ c < -S) := h2
      clear o1 o2 h1 h2
      go_enter Try.func73, Try.ntmps73
      go_wp2
      go_ret2
      exact ⟨-1, true, rfl, rfl, fun _ => Or.inr ⟨rfl, H2.out⟩⟩
    · have t2 : (FloatKind.f64.format.order v (ng s) == some .lt) = false := by
        rw [o2]
        have : compare (x * 2 ^ c) (-S) ≠ .lt := fun h => h2 (Int.compare_eq_lt.1 h)
        cases h : compare (x * 2 ^ c) (-S) <;> simp_all
      clear o1 o2 h1 h2
      go_enter Try.func73, Try.ntmps73
      go_wp2
      go_ret2
      exact ⟨0, false, rfl, rfl, fun h => absurd h (by simp)⟩

end Go.Proofs.Ytgeoffpcmkofkaa
