/- Wa; Wb; Wc; Wd; We; Wf: texts laid into one. -/
import Derived.Test.YtgeoffpcmkofkaaProg
import Derived.Test.YtgeoffpcmkofkaaRac
import Derived.WalkKit
import Derived.WalkSpells
import Derived.WalkLawsBesides
/- The walks of package expansion's small functions. -/
namespace Go.Proofs.Ytgeoffpcmkofkaa
open Go.RowKit Fl
set_option maxRecDepth 100000

theorem fadd {a b r : Nat} (h : Ieee.double.add a b = some r) (t : TypeId) (w : World) : (binOp .add t (.float .f64 a) (.float .f64 b)).run Try.prog w = .ok (.float .f64 r) w := run_float_arith w .add t .f64 a b r h
theorem fsub {a b r : Nat} (h : Ieee.double.sub a b = some r) (t : TypeId) (w : World) : (binOp .sub t (.float .f64 a) (.float .f64 b)).run Try.prog w = .ok (.float .f64 r) w := run_float_arith w .sub t .f64 a b r h
theorem fmul {a b r : Nat} (h : Ieee.double.mul a b = some r) (t : TypeId) (w : World) : (binOp .mul t (.float .f64 a) (.float .f64 b)).run Try.prog w = .ok (.float .f64 r) w := run_float_arith w .mul t .f64 a b r h

set_option maxHeartbeats 400000 in
theorem splitSum_walk (a b s bb aa da db l : Nat) (w : World) (h1 : Ieee.double.add a b = some s) (h2 : Ieee.double.sub s a = some bb) (h3 : Ieee.double.sub s bb = some aa) (h4 : Ieee.double.sub a aa = some da) (h5 : Ieee.double.sub b bb = some db) (h6 : Ieee.double.add da db = some l) :
    Calls Try.prog 105 #[.float .f64 a, .float .f64 b] w fun e w' => e = .returned (.tuple #[.float .f64 s, .float .f64 l]) ∧ w' = w := by
  have g1 := fadd h1 81
  have g2 := fsub h2 81
  have g3 := fsub h3 81
  have g4 := fsub h4 81
  have g5 := fsub h5 81
  have g6 := fadd h6 81
  clear h1 h2 h3 h4 h5 h6
  go_enter Try.func105, Try.ntmps105
  go_wp2
  go_ret2
  exact ⟨rfl, rfl⟩

theorem splitSum_any (a b : Nat × Int) (w : World) (ha : F a.1 a.2 0) (hb : F b.1 b.2 0) (ra : Rep a.2) (rb : Rep b.2) (hm : (a.2.natAbs : Int) + b.2.natAbs < Mid) :
    Calls Try.prog 105 #[.float .f64 a.1, .float .f64 b.1] w fun e w' => ∃ s l : Nat × Int, e = .returned (.tuple #[.float .f64 s.1, .float .f64 l.1]) ∧ w' = w ∧ Rnd (a.2 + b.2) s.2 ∧ F s.1 s.2 0 ∧ l.2 = a.2 + b.2 - s.2 ∧ F l.1 l.2 0 := by
  have hB := Big_eq
  have h0 := Mid_pos
  have ba : (a.2.natAbs : Int) ≤ Mid := by omega
  have bb' : (b.2.natAbs : Int) ≤ Mid := by omega
  generalize Mid = M at hB h0 ba bb'
  clear hm
  have t1 := add_bd ba bb'
  obtain ⟨s, zs, e1, q1, f1⟩ := ha.add hb (by omega) (Int.lt_of_le_of_lt t1 (by omega))
  have u1 := q1.bd t1
  have t2 := sub_bd u1 ba
  obtain ⟨bb, zbb, e2, q2, f2⟩ := f1.sub ha (by omega) (Int.lt_of_le_of_lt t2 (by clear t1 u1; omega))
  have u2 := q2.bd t2
  have t3 := sub_bd u1 u2
  obtain ⟨aa, zaa, e3, q3, f3⟩ := f1.sub f2 (by omega) (Int.lt_of_le_of_lt t3 (by clear t1 u1 t2 u2 t3; omega))
  have u3 := q3.bd t3
  have t4 := sub_bd ba u3
  obtain ⟨da, zda, e4, q4, f4⟩ := ha.sub f3 (by omega) (Int.lt_of_le_of_lt t4 (by clear t1 u1 t2 u2 t3 u3 t4; omega))
  have u4 := q4.bd t4
  have t5 := sub_bd bb' u2
  obtain ⟨db, zdb, e5, q5, f5⟩ := hb.sub f2 (by omega) (Int.lt_of_le_of_lt t5 (by clear t1 u1 t2 u2 t3 u3 t4 u4 t5; omega))
  have u5 := q5.bd t5
  have t6 := add_bd u4 u5
  obtain ⟨l, zl, e6, q6, f6⟩ := f4.add f5 (by omega) (Int.lt_of_le_of_lt t6 (by clear t1 u1 t2 u2 t3 u3 t4 u4 t5 u5 t6; omega))
  refine (splitSum_walk _ _ s bb aa da db l w e1 e2 e3 e4 e5 e6).mono ?_
  rintro e w' ⟨rfl, rfl⟩
  exact ⟨(s, zs), (l, zl), rfl, rfl, q1, f1, two_sum ra rb q1 q2 q3 q4 q5 q6, f6⟩

theorem fneg (b : Nat) (w : World) : (Op.unary .neg (.float .f64 b)).run Try.prog w = .ok (.float .f64 (ng b)) w := rfl

theorem fma_run {a b c r : Nat} (h : Ieee.double.fma a b c = some r) (w : World) : (callFunc 104 #[.float .f64 a, .float .f64 b, .float .f64 c]).run Try.prog w = .ok (.value (.float .f64 r)) w := by
  have hh : FloatKind.f64.format.fma a b c = some r := h
  have e : Extern.MathFMA.fma #[.float .f64 a, .float .f64 b, .float .f64 c] = pure (.float .f64 r) := by
    show (match FloatKind.f64.format.fma a b c with | some r => (pure (Value.float .f64 r) : Sem Value) | none => _) = _
    rw [hh]
  rw [run_callFunc_extern (fn := Try.f104) (e := Extern.MathFMA.fma) (by kernel_rfl) (by kernel_rfl) (by kernel_rfl) (by kernel_rfl) (by kernel_rfl), e]
  rfl

set_option maxHeartbeats 400000 in
theorem splitProduct_walk (a b s l : Nat) (w : World) (h1 : Ieee.double.mul a b = some s) (h2 : Ieee.double.fma a b (ng s) = some l) :
    Calls Try.prog 95 #[.float .f64 a, .float .f64 b] w fun e w' => e = .returned (.tuple #[.float .f64 s, .float .f64 l]) ∧ w' = w := by
  have g1 := fmul h1 81
  have g2 := fun w => fma_run h2 w
  have g3 := fneg
  clear h1 h2
  go_enter Try.func95, Try.ntmps95
  go_wp2
  go_ret2
  exact ⟨rfl, rfl⟩

theorem splitProduct_any (a b : Nat × Int) (w : World) (ha : F a.1 a.2 0) (hb : F b.1 b.2 0) (ra : Rep a.2) (rb : Rep b.2) (hm : ((a.2 * b.2).natAbs : Int) ≤ Mid) :
    Calls Try.prog 95 #[.float .f64 a.1, .float .f64 b.1] w fun e w' => ∃ s l : Nat × Int, e = .returned (.tuple #[.float .f64 s.1, .float .f64 l.1]) ∧ w' = w ∧ Rnd (a.2 * b.2) s.2 ∧ F s.1 s.2 0 ∧ l.2 = a.2 * b.2 - s.2 ∧ F l.1 l.2 0 ∧ Rep l.2 := by
  have hB := Big_eq
  have h0 := Mid_pos
  generalize Mid = M at hB h0 hm
  obtain ⟨s, zs, e1, q1, f1⟩ := ha.mul hb (by omega) (Int.lt_of_le_of_lt hm (by omega))
  have u1 := q1.bd hm
  have hn := f1.neg
  have t2 : ((a.2 * b.2 + -zs).natAbs : Int) ≤ M + 2 * M := add_bd hm (by omega)
  obtain ⟨l, zl, e2, q2, f2⟩ := ha.fma hb hn (Int.lt_of_le_of_lt t2 (by omega))
  have hr := q1.prod_rep ra rb
  have e3 : a.2 * b.2 + -zs = a.2 * b.2 - zs := by omega
  rw [e3] at q2
  have e4 := q2.exact hr
  refine (splitProduct_walk _ _ s l w e1 e2).mono ?_
  rintro e w' ⟨rfl, rfl⟩
  exact ⟨(s, zs), (l, zl), rfl, rfl, q1, f1, e4, f2, by rw [e4]; exact hr⟩

theorem bits_run (b : Nat) (w : World) : (callFunc 93 #[.float .f64 b]).run Try.prog w = .ok (.value (.int .u64 b)) w := by
  rw [run_callFunc_extern (fn := Try.f93) (e := Extern.MathFloatBits.float64bits) (by kernel_rfl) (by kernel_rfl) (by kernel_rfl) (by kernel_rfl) (by kernel_rfl)]
  rfl
theorem frombits_run (b : Nat) (w : World) : (callFunc 92 #[.int .u64 b]).run Try.prog w = .ok (.value (.float .f64 b)) w := by
  rw [run_callFunc_extern (fn := Try.f92) (e := Extern.MathFloatBits.float64frombits) (by kernel_rfl) (by kernel_rfl) (by kernel_rfl) (by kernel_rfl) (by kernel_rfl)]
  rfl

theorem andNot_ab (b : Nat) (h : b < 2 ^ 64) : bits .andNot .u64 b 9223372036854775808 = (ab b : Int) := by
  rw [u64_andNot _ _ (by omega) (by omega) (by omega) (by omega)]
  have e2 : (b : Int).toNat &&& (18446744073709551615 - (9223372036854775808 : Int).toNat) = ab b := by
    have : (18446744073709551615 - (9223372036854775808 : Int).toNat) = 2 ^ 63 - 1 := by decide
    rw [this, Nat.and_two_pow_sub_one_eq_mod]; rfl
  rw [e2]

set_option maxHeartbeats 400000 in
theorem abs_walk (b : Nat) (w : World) (h : b < 2 ^ 64) :
    Calls Try.prog 74 #[.float .f64 b] w fun e w' => e = .returned (.float .f64 (ab b)) ∧ w' = w := by
  have g1 := bits_run
  have g2 : ∀ w, (callFunc 92 #[.int .u64 (bits .andNot .u64 b 9223372036854775808)]).run Try.prog w = .ok (.value (.float .f64 (ab b))) w := fun w => by rw [andNot_ab b h]; exact frombits_run _ w
  clear h
  go_enter Try.func74, Try.ntmps74
  go_wp2
  go_ret
  exact ⟨rfl, rfl⟩

end Go.Proofs.Ytgeoffpcmkofkaa
/- The walk of 'grow'. -/
namespace Go.Proofs.Ytgeoffpcmkofkaa
open Go.RowKit Fl
set_option maxRecDepth 100000

/-- The cell of a word. -/
def fw (p : Nat × Int) : Value := .float .f64 p.1

theorem Try.info81 : (Try.prog.info? 81).map (fun i => (i.zero, i.size, i.bytes)) = some (some (.float .f64 0), 1, 8) := by kernel_rfl

theorem wpList_append_exact {P : Program} (w : World) {ops : Array Oper} {rest : List Oper} {o : Oper} {a : Act} {Q : Exit → Act → World → Prop}
    (hgd : o.guard = none) (s x : Operand) (t : TypeId) (hop : o.op = Op.call { callee := Callee.builtin Builtin.append, args := #[s, x], argTypes := #[t, t] })
    (e : TypeId) (i : TypeInfo) (h1 : P.underlying t = some (.slice e)) (h2 : P.info? e = some i) (h4 : i.size = 1)
    (g k cap : Nat) (cur : Array Value) (hg : w.heap[g]? = some (.cells cur e (0, 0))) (hs : a.eval s = .slice (some ⟨g, 0, none⟩) k cap) (ad : Addr) (u : Value) (hx : a.eval x = .slice (some ad) 1 1)
    (hc : ∀ j v, [u][j]? = some v → w.cell? (ad.add j) = some v) (h1c : u.oneCell' = true) (hsz : cur.size = cap) (hroom : k < cap)
    (hK : ∀ w' (cur' : Array Value), w'.heap[g]? = some (.cells cur' e (0, 0)) → cur'.size = cap → cur'.toList.take (k + 1) = cur.toList.take k ++ [u] → (∀ j, k < j → cur'[j]? = cur[j]?) → w.grownBy w' (some g) → wpList P ops Q rest (a.put o.dst (.slice (some ⟨g, 0, none⟩) (k + 1) cap)) w') :
    wpList P ops Q (o :: rest) a w := by
  refine wpList_plain hgd fun K hK' => ?_
  have hr := run_append_room (P := P) w t o.type e i h1 h2 g k cap cur hg ad 1 1 [u] (by rw [h4]; rfl) hc (by simp [h1c]) (by omega) (by rw [h4]; simp; omega)
  rw [h4, Nat.mul_one] at hr
  unfold Oper.wp
  simp [execOp, hop, resolve, invoke, builtin, hs, hx, hr, Result.andThen]
  have hlen : cur.toList.length = cap := by simpa using hsz
  refine hK' _ _ (hK _ (cur.toList.take k ++ [u] ++ cur.toList.drop (k + 1)).toArray ?_ ?_ ?_ ?_ ?_)
  · have := setRow_heap w g cur (cur.toList.take k ++ [u] ++ cur.toList.drop (k + 1)).toArray e _ hg
    simpa using this
  · simp; omega
  · have e1 : (cur.toList.take k ++ [u]).length = k + 1 := by simp; omega
    have : (cur.toList.take k ++ [u] ++ cur.toList.drop (k + 1)).take (k + 1) = cur.toList.take k ++ [u] := by
      rw [← e1]; exact List.take_left
    simpa using this
  · intro j hj
    rw [List.getElem?_toArray, List.getElem?_append_right (by simp; omega), List.getElem?_drop]
    have e1 : (cur.toList.take k ++ [u]).length = k + 1 := by simp; omega
    rw [e1, Nat.add_sub_cancel' (by omega)]
    simp
  · exact ⟨rfl, rfl, rfl, by simp, fun k' _ hk => setRow_other w g k' _ (fun e => hk (by simp [e]))⟩

/-- What holds in the memory at part k of the growing. -/
structure GrMem (w wr : World) (g cap : Nat) (es : Ws) (k : Nat) (O : Ws) (cr : Array Value) : Prop where
  row : wr.heap[g]? = some (.cells cr 81 (0, 0))
  size : cr.size = cap
  done : cr.toList.take O.length = O.map fw
  todo : ∀ j, k ≤ j → (h : j < es.length) → cr[j]? = some (fw es[j])
  grown : w.grownBy wr (some g)

theorem GrMem.cell {w wr : World} {g cap k : Nat} {es O : Ws} {cr : Array Value} (h : GrMem w wr g cap es k O cr) (hk : k < es.length) : wr.cell? ⟨g, k, none⟩ = some (.float .f64 es[k].1) := by
  rw [cell_of_row wr g k cr 81 (0, 0) h.row, h.todo k (Nat.le_refl _) hk]; rfl

/-- What is asked of the parts that come in. -/
structure GrPre (es : Ws) (b : Nat × Int) (T : Int) (K : Nat) : Prop where
  words : Fs es
  reps : ∀ p ∈ es, Rep p.2
  word : F b.1 b.2 0
  rep : Rep b.2
  count : T + es.length * 2 ^ K ≤ 2 ^ 52 * 2 ^ K
  place : K + 52 ≤ 880
  bound : (b.2.natAbs : Int) + mass (vals es) ≤ T

theorem order_zero {l : Nat × Int} (h : F l.1 l.2 0) : (FloatKind.f64.format.order l.1 0 != some .eq) = true ↔ l.2 ≠ 0 := by
  have h0 : F 0 0 0 := F.ofInt 0 (by decide)
  have e := h.order h0
  have e2 : FloatKind.f64.format.order l.1 0 = some (compare l.2 0) := e
  rw [e2]
  by_cases hz : l.2 = 0
  · rw [hz]; decide
  · have : compare l.2 0 ≠ .eq := fun h => hz (Int.compare_eq_eq.1 h)
    simp [hz]

/-- One call of splitSum in the round. -/
theorem split_step {b : Nat × Int} {es : Ws} {T : Int} {K k : Nat} {Q : Nat × Int} {O : Ws} (hp : GrPre es b T K) (h : GrInv b.2 es T K k Q O) (hk : k < es.length) (w : World) :
    Calls Try.prog 105 #[.float .f64 Q.1, .float .f64 es[k].1] w fun e w' => ∃ s l : Nat × Int, e = .returned (.tuple #[.float .f64 s.1, .float .f64 l.1]) ∧ w = w' ∧ Hid (F l.1 l.2 0 ∧ (l.2 ≠ 0 → GrInv b.2 es T K (k + 1) s (O ++ [l])) ∧ (l.2 = 0 → GrInv b.2 es T K (k + 1) s O)) := by
  refine (splitSum_any Q es[k] w h.word (hp.words _ (List.getElem_mem hk)) h.rep (hp.reps _ (List.getElem_mem hk)) (h.small hk hp.count hp.place)).mono ?_
  rintro e w' ⟨s, l, rfl, rfl, h1, h2, h3, h4⟩
  exact ⟨s, l, rfl, rfl, h4, fun h0 => h.keep hk hp.count h1 h2 h3 h4 h0, fun h0 => h.skip hk hp.count h1 h2 (by rw [← h3]; exact h0)⟩

theorem GrMem.next {w wr w1 : World} {g cap k : Nat} {es O : Ws} {cr cr' : Array Value} {l : Nat × Int} {o : Obj} (h : GrMem w wr g cap es k O cr) (hO : O.length ≤ k)
    (r1 : w1.heap[g]? = some (.cells cr' 81 (0, 0))) (r2 : cr'.size = cap) (r3 : cr'.toList.take (O.length + 1) = cr.toList.take O.length ++ [fw l]) (r4 : ∀ j, O.length < j → cr'[j]? = cr[j]?) (r5 : (wr.alloc o).grownBy w1 (some g)) :
    GrMem w w1 g cap es (k + 1) (O ++ [l]) cr' := by
  refine ⟨r1, r2, ?_, ?_, ?_⟩
  · rw [List.length_append, List.length_singleton, r3, h.done]; simp
  · intro j hj hlt
    rw [r4 j (by omega)]
    exact h.todo j (by omega) hlt
  · have g1 := h.grown
    have hs : (wr.alloc o).heap.size = wr.heap.size + 1 := by simp
    refine ⟨r5.os.trans g1.os, r5.tape.trans g1.tape, r5.output.trans g1.output, ?_, ?_⟩
    · have := r5.size; have := g1.size; omega
    · intro k' hk' hne
      have hk2 : k' < wr.heap.size := Nat.lt_of_lt_of_le hk' g1.size
      rw [r5.block k' (by omega) hne, _root_.Go.heap_alloc_old wr o hk2, g1.block k' hk' hne]

theorem GrMem.skip {w wr : World} {g cap k : Nat} {es O : Ws} {cr : Array Value} (h : GrMem w wr g cap es k O cr) : GrMem w wr g cap es (k + 1) O cr :=
  ⟨h.row, h.size, h.done, fun j hj hlt => h.todo j (by omega) hlt, h.grown⟩

theorem GrMem.rowAlloc {w wr : World} {g cap k : Nat} {es O : Ws} {cr : Array Value} (h : GrMem w wr g cap es k O cr) (o : Obj) : (wr.alloc o).heap[g]? = some (.cells cr 81 (0, 0)) := by
  rw [_root_.Go.heap_alloc_old wr o (Array.getElem?_eq_some_iff.1 h.row).1]; exact h.row

set_option maxHeartbeats 1000000 in
theorem grow_any (g cap : Nat) (es : Ws) (b : Nat × Int) (T : Int) (K : Nat) (cur : Array Value) (w : World)
    (hg : w.heap[g]? = some (.cells cur 81 (0, 0))) (hsz : cur.size = cap) (hcur : cur.toList.take es.length = es.map fw) (hroom : es.length < cap) (hcap : cap ≤ 1048576) (hp : GrPre es b T K) :
    Calls Try.prog 96 #[.slice (some ⟨g, 0, none⟩) es.length cap, .float .f64 b.1] w fun e w' =>
      ∃ (out : Ws) (cur' : Array Value), e = .returned (.slice (some ⟨g, 0, none⟩) out.length cap) ∧ Grown b.2 es T K out ∧ w'.heap[g]? = some (.cells cur' 81 (0, 0)) ∧ cur'.size = cap ∧ cur'.toList.take out.length = out.map fw ∧ w.grownBy w' (some g) := by
  obtain ⟨i0, hi, hz0, hz1, hz2⟩ := info_parts Try.info81
  have hm0 : GrMem w w g cap es 0 [] cur := by
    refine ⟨hg, hsz, by simp, ?_, World.grownBy.refl _ _⟩
    intro j _ hlt
    have : (cur.toList.take es.length)[j]? = some (fw es[j]) := by rw [hcur]; simp [hlt]
    rw [List.getElem?_take_of_lt hlt] at this
    simpa using this
  have hi0 : GrInv b.2 es T K 0 b [] := GrInv.start hp.rep hp.word hp.bound
  clear hg hsz hcur
  go_enter Try.func96, Try.ntmps96
  go_wp2
  go_loopw [1, 5, 13] (fun c gr i wr => ∃ (k : Nat) (Q : Nat × Int) (O : Ws) (cr : Array Value), i = .int .i64 k ∧ c = .float .f64 Q.1 ∧ gr = .slice (some ⟨g, 0, none⟩) O.length cap ∧ GrInv b.2 es T K k Q O ∧ GrMem w wr g cap es k O cr)
    (fun _ _ i _ => es.length - (intOf i).toNat)
  case atStart => exact ⟨0, b, [], cur, rfl, rfl, rfl, hi0, hm0⟩
  case round =>
    obtain ⟨k, Q, O, cr, rfl, rfl, rfl, hinv, hmem⟩ := hrel
    have hle := hinv.le
    have hlen := hinv.len
    by_cases hk : k < es.length
    · have hcell := hmem.cell hk
      go_wp2_with (first
        | (go_at_call 105; refine (split_step hp hinv hk _).mono ?_; rintro e w' ⟨s, l, rfl, rfl, hstep⟩)
        | (at_builtin; refine wpList_append_exact _ rfl _ _ 87 rfl 81 i0 Try.underlying87 hi hz1 g O.length cap cr (hmem.rowAlloc _) rfl ⟨wr.heap.size, 0, none⟩ _ rfl (cell_one_new _ _ _) rfl hmem.size (by omega) ?_; intro w1 cr' r1 r2 r3 r4 r5))
      · have hne := (order_zero hstep.out.1).1 (by assumption)
        go_roundw
        case rel => exact ⟨k + 1, s, O ++ [l], cr', by go_num, rfl, by simp, hstep.out.2.1 hne, hmem.next hlen r1 r2 r3 r4 r5⟩
        case measure => simp [intOf]; omega
      · have hz : l.2 = 0 := by
          have h1 := order_zero hstep.out.1
          have h2 : (FloatKind.f64.format.order l.1 0 != some .eq) = false := by assumption
          rw [h2] at h1
          exact Decidable.byContradiction fun h => Bool.false_ne_true (h1.2 h)
        go_roundw
        case rel => exact ⟨k + 1, s, O, cr, by go_num, rfl, rfl, hstep.out.2.2 hz, hmem.skip⟩
        case measure => simp [intOf]; omega
    · go_wp2_with (at_builtin; refine wpList_append_exact _ rfl _ _ 87 rfl 81 i0 Try.underlying87 hi hz1 g O.length cap cr (hmem.rowAlloc _) rfl ⟨wr.heap.size, 0, none⟩ _ rfl (cell_one_new _ _ _) rfl hmem.size (by omega) ?_; intro w1 cr' r1 r2 r3 r4 r5)
      · have hne := (order_zero hinv.word).1 (by assumption)
        have hk2 : k = es.length := by omega
        subst hk2
        have hm2 := hmem.next hlen r1 r2 r3 r4 r5 (l := Q)
        go_ret
        exact ⟨O ++ [Q], cr', by simp, hinv.last hne, hm2.row, hm2.size, hm2.done, hm2.grown⟩
      · have hz : Q.2 = 0 := by
          have h1 := order_zero hinv.word
          have h2 : (FloatKind.f64.format.order Q.1 0 != some .eq) = false := by assumption
          rw [h2] at h1
          exact Decidable.byContradiction fun h => Bool.false_ne_true (h1.2 h)
        have hk2 : k = es.length := by omega
        subst hk2
        go_ret
        exact ⟨O, cr, rfl, hinv.last0 hz, hmem.row, hmem.size, hmem.done, hmem.grown⟩

end Go.Proofs.Ytgeoffpcmkofkaa
/- Expansions in memory: 'Difference', 'copyWithRoom', 'Plus', 'Minus', 'Sign'. -/
namespace Go.Proofs.Ytgeoffpcmkofkaa
open Go.RowKit Fl
set_option maxRecDepth 100000

/-- An expansion lies at the head of block g, which has room for cap parts. -/
structure Lst (w : World) (g cap : Nat) (ws : Ws) : Prop where
  row : ∃ cur : Array Value, w.heap[g]? = some (.cells cur 81 (0, 0)) ∧ cur.size = cap ∧ cur.toList.take ws.length = ws.map fw
  words : Fs ws
  ex : Ex (vals ws)
  small : cap ≤ 1048576

theorem ex_reps {ws : Ws} (h : Ex (vals ws)) : ∀ p ∈ ws, Rep p.2 := by
  induction ws with
  | nil => simp
  | cons a l ih =>
    intro p hp
    rcases List.mem_cons.1 hp with rfl | hp
    · exact h.2.1
    · exact ih h.2.2.2 p hp

theorem Lst.lt {w : World} {g cap : Nat} {ws : Ws} (h : Lst w g cap ws) : g < w.heap.size := by
  obtain ⟨cur, h1, _⟩ := h.row
  exact (Array.getElem?_eq_some_iff.1 h1).1

theorem Lst.le {w : World} {g cap : Nat} {ws : Ws} (h : Lst w g cap ws) : ws.length ≤ cap := by
  obtain ⟨cur, _, h2, h3⟩ := h.row
  have := congrArg List.length h3
  simp at this
  omega

theorem Lst.kept {w w' : World} {g cap : Nat} {ws : Ws} {row : Option Nat} (h : Lst w g cap ws) (hg : w.grownBy w' row) (hne : some g ≠ row) : Lst w' g cap ws := by
  obtain ⟨cur, h1, h2⟩ := h.row
  exact ⟨⟨cur, by rw [hg.block g h.lt hne]; exact h1, h2⟩, h.words, h.ex, h.small⟩

theorem Lst.cell {w : World} {g cap : Nat} {ws : Ws} (h : Lst w g cap ws) {j : Nat} (hj : j < ws.length) : w.cell? ⟨g, j, none⟩ = some (.float .f64 ws[j].1) := by
  obtain ⟨cur, h1, h2, h3⟩ := h.row
  rw [cell_of_row w g j cur 81 (0, 0) h1]
  have : (cur.toList.take ws.length)[j]? = some (fw ws[j]) := by rw [h3]; simp [hj]
  rw [List.getElem?_take_of_lt hj] at this
  simpa [fw] using this

theorem Lst.of_owns {w : World} {base g cap n : Nat} {ws : Ws} (h : w.ownsRow base 81 1 (.slice (some ⟨g, 0, none⟩) n cap) n (ws.map fw)) (hn : n = ws.length) (hF : Fs ws) (he : Ex (vals ws)) (hs : cap ≤ 1048576) : Lst w g cap ws := by
  subst hn
  obtain ⟨_, h1⟩ := h
  rcases h1 with ⟨h1, _⟩ | ⟨g', cap', cur, h1, _, h2, _, _, h3, h4⟩
  · cases h1
  · cases h1
    exact ⟨⟨cur, h2, by simpa using h3, by simpa using h4⟩, hF, he, hs⟩

/-- Nothing that was there has turned. -/
abbrev New (w w' : World) : Prop := w.grownBy w' none

theorem New.trans {w w1 w2 : World} {row : Option Nat} (h : New w w1) (k : w1.grownBy w2 row) (hr : ∀ g, row = some g → w.heap.size ≤ g) : New w w2 := by
  refine ⟨k.os.trans h.os, k.tape.trans h.tape, k.output.trans h.output, Nat.le_trans h.size k.size, fun i hi _ => ?_⟩
  rw [k.block i (Nat.lt_of_lt_of_le hi h.size) (fun e => by have := hr i e.symm; omega), h.block i hi (by simp)]

theorem New.trans' {w w1 w2 : World} (h : New w w1) (k : New w1 w2) : New w w2 := h.trans k (by simp)

theorem grow_at (g cap : Nat) (ws : Ws) (b : Nat × Int) (K : Nat) (w : World) (h : Lst w g cap ws) (hroom : ws.length < cap) (hb : F b.1 b.2 0) (rb : Rep b.2) (hK : K + 52 ≤ 880)
    (hT : (b.2.natAbs : Int) + mass (vals ws) + ws.length * 2 ^ K ≤ 2 ^ 52 * 2 ^ K) :
    Calls Try.prog 96 #[.slice (some ⟨g, 0, none⟩) ws.length cap, .float .f64 b.1] w fun e w' =>
      ∃ out : Ws, e = .returned (.slice (some ⟨g, 0, none⟩) out.length cap) ∧ Lst w' g cap out ∧ total (vals out) = b.2 + total (vals ws) ∧ out.length ≤ ws.length + 1 ∧ mass (vals out) ≤ (b.2.natAbs : Int) + mass (vals ws) + ws.length * 2 ^ K ∧ w.grownBy w' (some g) := by
  obtain ⟨cur, h1, h2, h3⟩ := h.row
  refine (grow_any g cap ws b _ K cur w h1 h2 h3 hroom h.small ⟨h.words, ex_reps h.ex, hb, rb, hT, hK, Int.le_refl _⟩).mono ?_
  rintro e w' ⟨out, cur', rfl, hgr, r1, r2, r3, r4⟩
  exact ⟨out, rfl, ⟨⟨cur', r1, r2, r3⟩, hgr.words, hgr.gr.ex rb h.ex, h.small⟩, hgr.gr.total, hgr.len, hgr.bound, r4⟩

/-- A float64 that is a coordinate. -/
structure Co (a : Nat × Int) : Prop where
  word : F a.1 a.2 0
  small : (a.2.natAbs : Int) ≤ 9007199254740992

theorem Co.rep {a : Nat × Int} (h : Co a) : Rep a.2 := by
  have e : (2 : Int) ^ 53 = 9007199254740992 := by decide
  exact Rep.small (by have := h.small; omega)

theorem diff_one (b : Nat × Int) (h : Co b) (w1 : World) (g : Nat) (hl : Lst w1 g 2 []) :
    Calls Try.prog 96 #[.slice (some ⟨g, 0, none⟩) 0 2, .float .f64 (ng b.1)] w1 fun e w' =>
      ∃ out : Ws, e = .returned (.slice (some ⟨g, 0, none⟩) out.length 2) ∧ Hid (Lst w' g 2 out ∧ total (vals out) = -b.2 ∧ out.length ≤ 1 ∧ mass (vals out) ≤ (b.2.natAbs : Int) ∧ w1.grownBy w' (some g)) := by
  have e52 : (2 : Int) ^ 52 * 2 ^ 14 = 73786976294838206464 := by decide
  have hs := h.small
  refine (grow_at g 2 [] (ng b.1, -b.2) 14 w1 hl (by simp) h.word.neg h.rep.neg (by omega) (by rw [e52]; simp only [vals, mass, List.map_nil, List.length_nil]; omega)).mono ?_
  rintro e w' ⟨out, rfl, h1, h2, h3, h4, h5⟩
  exact ⟨out, rfl, h1, by simpa [vals, total] using h2, by simpa using h3, by simpa [vals, mass] using h4, h5⟩

theorem diff_two (a b : Nat × Int) (ha : Co a) (hb : Co b) (w1 : World) (g : Nat) (ws : Ws) (hl : Lst w1 g 2 ws) (ht : total (vals ws) = -b.2) (hlen : ws.length ≤ 1) (hm : mass (vals ws) ≤ (b.2.natAbs : Int)) :
    Calls Try.prog 96 #[.slice (some ⟨g, 0, none⟩) ws.length 2, .float .f64 a.1] w1 fun e w' =>
      ∃ out : Ws, e = .returned (.slice (some ⟨g, 0, none⟩) out.length 2) ∧ Hid (Lst w' g 2 out ∧ total (vals out) = a.2 - b.2 ∧ mass (vals out) ≤ 2 ^ 55 ∧ w1.grownBy w' (some g)) := by
  have e52 : (2 : Int) ^ 52 * 2 ^ 14 = 73786976294838206464 := by decide
  have e55 : (2 : Int) ^ 55 = 36028797018963968 := by decide
  have e14 : (2 : Int) ^ 14 = 16384 := by decide
  have h1 := ha.small
  have h2 := hb.small
  have hll : (ws.length : Int) * 2 ^ 14 ≤ 16384 := by rw [e14]; omega
  refine (grow_at g 2 ws a 14 w1 hl (by omega) ha.word ha.rep (by omega) (by rw [e52]; omega)).mono ?_
  rintro e w' ⟨out, rfl, h1, h2, h3, h4, h5⟩
  exact ⟨out, rfl, h1, by rw [h2, ht]; omega, by rw [e55]; omega, h5⟩

theorem new_lst {w w0 : World} {cap : Nat} (hs : cap ≤ 1048576) (h : w0.ownsRow w.heap.size 81 1 (.slice (some ⟨w.heap.size, 0, none⟩) 0 cap) 0 []) : Lst w0 w.heap.size cap [] :=
  Lst.of_owns (ws := []) h rfl (fun _ h => absurd h (by simp)) trivial hs

theorem make_two (w : World) : (Instr.makeSlice 87 (.int .i64 0) (.int .i64 2)).run Try.prog w = .ok (.slice (some ⟨w.heap.size, 0, none⟩) 0 2) (w.alloc (.cells #[.float .f64 0, .float .f64 0] 81)) := by kernel_rfl

set_option maxHeartbeats 400000 in
/-- 'Difference'. -/
theorem difference_any (a b : Nat × Int) (w : World) (ha : Co a) (hb : Co b) :
    Calls Try.prog 94 #[.float .f64 a.1, .float .f64 b.1] w fun e w' =>
      ∃ (g : Nat) (out : Ws), e = .returned (.slice (some ⟨g, 0, none⟩) out.length 2) ∧ Hid (Lst w' g 2 out ∧ w.heap.size ≤ g ∧ New w w' ∧ total (vals out) = a.2 - b.2 ∧ mass (vals out) ≤ 2 ^ 55) := by
  have hng := fneg
  have hmk := make_two
  have HL : Hid (Lst (w.alloc (.cells #[.float .f64 0, .float .f64 0] 81)) w.heap.size 2 []) := by
    refine ⟨⟨_, _root_.Go.heap_alloc_new w _, rfl, rfl⟩, fun _ h => absurd h (by simp), trivial, by omega⟩
  go_enter Try.func94, Try.ntmps94
  go_wp2_with fail
  refine (diff_one b hb _ _ HL.out).mono ?_
  rintro e w1 ⟨o1, rfl, H1⟩
  go_wp2_with fail
  refine (diff_two a b ha hb _ _ o1 H1.out.1 H1.out.2.1 H1.out.2.2.1 H1.out.2.2.2.1).mono ?_
  rintro e w2 ⟨o2, rfl, H2⟩
  go_wp2_with fail
  go_ret
  refine ⟨w.heap.size, o2, rfl, H2.out.1, Nat.le_refl _, ?_, H2.out.2.1, H2.out.2.2.1⟩
  exact (New.trans (World.grownBy_alloc w _ none) H1.out.2.2.2.2 (by rintro g ⟨⟩; exact Nat.le_refl _)).trans H2.out.2.2.2 (by rintro g ⟨⟩; exact Nat.le_refl _)

end Go.Proofs.Ytgeoffpcmkofkaa
/- 'copyWithRoom', 'Plus', 'Minus', 'Sign' of expansions. -/
namespace Go.Proofs.Ytgeoffpcmkofkaa
open Go.RowKit Fl
set_option maxRecDepth 100000

theorem fw_oneCell (ws : Ws) : ∀ u ∈ ws.map fw, u.oneCell' = true := by
  intro u hu
  obtain ⟨_, _, rfl⟩ := List.mem_map.1 hu
  rfl

theorem Lst.cells {w : World} {g cap : Nat} {ws : Ws} (h : Lst w g cap ws) : ∀ j u, (ws.map fw)[j]? = some u → w.cell? ((⟨g, 0, none⟩ : Addr).add j) = some u := by
  intro j u hu
  obtain ⟨hj, e⟩ := List.getElem?_eq_some_iff.1 hu
  have hj' : j < ws.length := by simpa using hj
  rw [Addr.add_lit, Nat.zero_add, h.cell hj', ← e]
  simp [fw]

set_option maxHeartbeats 400000 in
theorem copy_any (g cap : Nat) (ws : Ws) (m : Nat) (w : World) (h : Lst w g cap ws) (hs : ws.length + m ≤ 1048576) :
    Calls Try.prog 97 #[.slice (some ⟨g, 0, none⟩) ws.length cap, .int .i64 m] w fun e w' =>
      e = .returned (.slice (some ⟨w.heap.size, 0, none⟩) ws.length (ws.length + m)) ∧ Hid (Lst w' w.heap.size (ws.length + m) ws ∧ New w w') := by
  obtain ⟨i0, hi, hz0, hz1, hz2⟩ := info_parts Try.info81
  go_enter Try.func97, Try.ntmps97
  go_wp2_with (at_make; refine wpList_make_own _ rfl _ _ 87 rfl w.heap.size 81 i0 (.float .f64 0) 1 Try.underlying87 hi hz0 hz1 _ _ _ (ws.length + m) rfl rfl (by omega) ?b2 ?b3 (Nat.le_refl _) ?_)
  case b2 => rw [hz2]; omega
  case b3 => unfold maxLen; omega
  intro w0 hown0 hgrow0
  have HL : Hid (Lst w0 g cap ws) := h.kept hgrow0 (by simp)
  have HG : Hid (w.grownBy w0 none) := hgrow0
  clear hgrow0
  go_wp2_with (at_builtin; refine wpList_append_fits _ rfl _ _ 87 rfl w.heap.size 81 i0 1 Try.underlying87 hi hz1 w.heap.size 0 (ws.length + m) [] rfl hown0 ⟨g, 0, none⟩ ws.length cap (ws.map fw) rfl (by simp) HL.out.cells (fw_oneCell ws) (by omega) ?_; intro w1 hown1 hgrow1)
  go_ret
  refine ⟨by simp, ?_, ?_⟩
  · exact Lst.of_owns (ws := ws) (by simpa using hown1) rfl h.words h.ex (by omega)
  · exact New.trans HG.out hgrow1 (by rintro g' ⟨⟩; exact Nat.le_refl _)

/-- Sums and differences, at part j. -/
structure AddInv (σ : Int) (e f : Ws) (K : Nat) (j : Nat) (S : Ws) : Prop where
  len : S.length ≤ e.length + j
  le : j ≤ f.length
  tot : total (vals S) = total (vals e) + σ * total (vals (f.take j))
  bound : mass (vals S) + mass (vals (f.drop j)) ≤ mass (vals e) + mass (vals f) + j * (e.length + f.length) * 2 ^ K

theorem AddInv.start (σ : Int) (e f : Ws) (K : Nat) : AddInv σ e f K 0 e :=
  ⟨by omega, by omega, by simp [vals, total], by simp⟩

theorem total_take {f : Ws} {j : Nat} (hj : j < f.length) : total (vals (f.take (j + 1))) = total (vals (f.take j)) + f[j].2 := by
  rw [List.take_succ_eq_append_getElem hj, vals_append, total_append]
  simp [vals, total]

theorem mass_drop {f : Ws} {j : Nat} (hj : j < f.length) : mass (vals (f.drop j)) = (f[j].2.natAbs : Int) + mass (vals (f.drop (j + 1))) := by
  rw [drop_cons hj]; simp only [vals, List.map_cons, mass]

theorem mass_take {f : Ws} {j : Nat} (hj : j < f.length) : mass (vals (f.take (j + 1))) = mass (vals (f.take j)) + (f[j].2.natAbs : Int) := by
  rw [List.take_succ_eq_append_getElem hj, vals_append, mass_append]
  simp [vals, mass]

theorem AddInv.next {σ : Int} {e f : Ws} {K j : Nat} {S out : Ws} (h : AddInv σ e f K j S) (hj : j < f.length) {b : Int} (hb : b = σ * f[j].2) (hab : b.natAbs = f[j].2.natAbs)
    (h1 : total (vals out) = b + total (vals S)) (h2 : out.length ≤ S.length + 1) (h3 : mass (vals out) ≤ (b.natAbs : Int) + mass (vals S) + S.length * 2 ^ K) : AddInv σ e f K (j + 1) out := by
  have l1 := h.len
  refine ⟨by omega, hj, ?_, ?_⟩
  · rw [h1, h.tot, total_take hj, hb]; grind
  · have hb' := h.bound
    rw [mass_drop hj] at hb'
    have hp := p2_pos K
    have h4 : (S.length : Int) * 2 ^ K ≤ (e.length + f.length) * 2 ^ K := Int.mul_le_mul_of_nonneg_right (by omega) (by omega)
    have h5 : ((j + 1 : Nat) : Int) * (e.length + f.length) * 2 ^ K = j * (e.length + f.length) * 2 ^ K + (e.length + f.length) * 2 ^ K := by push_cast; grind
    rw [h5]
    omega

/-- The call of 'grow' fits. -/
theorem AddInv.fits {σ : Int} {e f : Ws} {K j : Nat} {S : Ws} (h : AddInv σ e f K j S) (hj : j < f.length) (hT : mass (vals e) + mass (vals f) + f.length * (e.length + f.length) * 2 ^ K ≤ 2 ^ 52 * 2 ^ K) :
    (f[j].2.natAbs : Int) + mass (vals S) + S.length * 2 ^ K ≤ 2 ^ 52 * 2 ^ K := by
  have l1 := h.len
  have hb' := h.bound
  rw [mass_drop hj] at hb'
  have hm := mass_nonneg (vals (f.drop (j + 1)))
  have hp := p2_pos K
  have h4 : (S.length : Int) * 2 ^ K ≤ (e.length + f.length) * 2 ^ K := Int.mul_le_mul_of_nonneg_right (by omega) (by omega)
  have h5 : ((j : Int) * (e.length + f.length) + (e.length + f.length)) * 2 ^ K ≤ f.length * (e.length + f.length) * 2 ^ K := by
    refine Int.mul_le_mul_of_nonneg_right ?_ (by omega)
    have : ((j : Int) + 1) * (e.length + f.length) ≤ f.length * (e.length + f.length) := Int.mul_le_mul_of_nonneg_right (by omega) (by omega)
    grind
  have h6 : ((j : Int) * (e.length + f.length) + (e.length + f.length)) * 2 ^ K = j * (e.length + f.length) * 2 ^ K + (e.length + f.length) * 2 ^ K := by grind
  omega

/-- One call of 'grow' in the loop of 'Plus' (s = 1) and 'Minus' (s = -1). -/
theorem add_step {σ : Int} {e f : Ws} {K j : Nat} {S : Ws} {w : World} {g3 : Nat} (h : AddInv σ e f K j S) (hj : j < f.length) (b : Nat × Int) (hF : F b.1 b.2 0) (hR : Rep b.2) (hb : b.2 = σ * f[j].2) (hab : b.2.natAbs = f[j].2.natAbs)
    (hK : K + 52 ≤ 880) (hT : mass (vals e) + mass (vals f) + f.length * (e.length + f.length) * 2 ^ K ≤ 2 ^ 52 * 2 ^ K) (hl : Lst w g3 (e.length + f.length) S) :
    Calls Try.prog 96 #[.slice (some ⟨g3, 0, none⟩) S.length (e.length + f.length), .float .f64 b.1] w fun e' w' =>
      ∃ out : Ws, e' = .returned (.slice (some ⟨g3, 0, none⟩) out.length (e.length + f.length)) ∧ Hid (Lst w' g3 (e.length + f.length) out ∧ AddInv σ e f K (j + 1) out ∧ w.grownBy w' (some g3)) := by
  have hl' := h.len
  refine (grow_at g3 _ S b K w hl (by omega) hF hR hK (by rw [hab]; exact h.fits hj hT)).mono ?_
  rintro e' w' ⟨out, rfl, h1, h2, h3, h4, h5⟩
  exact ⟨out, rfl, h1, h.next hj hb hab h2 h3 h4, h5⟩

set_option maxHeartbeats 800000 in
theorem plus_any (g1 c1 g2 c2 : Nat) (e f : Ws) (K : Nat) (w : World) (h1 : Lst w g1 c1 e) (h2 : Lst w g2 c2 f) (hs : e.length + f.length ≤ 4096) (hK : K + 52 ≤ 880)
    (hT : mass (vals e) + mass (vals f) + f.length * (e.length + f.length) * 2 ^ K ≤ 2 ^ 52 * 2 ^ K) :
    Calls Try.prog 83 #[.slice (some ⟨g1, 0, none⟩) e.length c1, .slice (some ⟨g2, 0, none⟩) f.length c2] w fun e' w' =>
      ∃ (g3 : Nat) (out : Ws), e' = .returned (.slice (some ⟨g3, 0, none⟩) out.length (e.length + f.length)) ∧ Hid (Lst w' g3 (e.length + f.length) out ∧ w.heap.size ≤ g3 ∧ New w w' ∧ AddInv 1 e f K f.length out) := by
  have HT : Hid (mass (vals e) + mass (vals f) + f.length * (e.length + f.length) * 2 ^ K ≤ 2 ^ 52 * 2 ^ K) := hT
  clear hT
  go_enter Try.func83, Try.ntmps83
  go_wp2_with fail
  refine (copy_any g1 c1 e f.length w h1 (by omega)).mono ?_
  rintro e' w1 ⟨rfl, H1⟩
  go_wp2_with fail
  go_loopw [5, 14] (fun v i wr => ∃ (k : Nat) (S : Ws), i = .int .i64 k ∧ v = .slice (some ⟨w.heap.size, 0, none⟩) S.length (e.length + f.length) ∧ Hid (Lst wr w.heap.size (e.length + f.length) S ∧ New w wr ∧ AddInv 1 e f K k S))
    (fun _ i _ => f.length - (intOf i).toNat)
  case atStart => exact ⟨0, e, rfl, rfl, H1.out.1, H1.out.2, AddInv.start 1 e f K⟩
  case round =>
    obtain ⟨k, S, rfl, rfl, H⟩ := hrel
    have hle := H.out.2.2.le
    by_cases hk : k < f.length
    · have hcell := (h2.kept H.out.2.1 (by simp)).cell hk
      go_wp2_with fail
      refine (add_step H.out.2.2 hk f[k] (h2.words _ (List.getElem_mem hk)) (ex_reps h2.ex _ (List.getElem_mem hk)) (by omega) rfl hK HT.out H.out.1).mono ?_
      rintro e' w2 ⟨out, rfl, H2⟩
      go_wp2_with fail
      go_roundw
      case rel => exact ⟨k + 1, out, by go_num, rfl, H2.out.1, H.out.2.1.trans H2.out.2.2 (by rintro g ⟨⟩; exact Nat.le_refl _), H2.out.2.1⟩
      case measure => simp [intOf]; omega
    · have hk2 : k = f.length := by omega
      subst hk2
      go_wp2_with fail
      go_ret
      exact ⟨w.heap.size, S, rfl, H.out.1, Nat.le_refl _, H.out.2.1, H.out.2.2⟩

set_option maxHeartbeats 800000 in
theorem minus_any (g1 c1 g2 c2 : Nat) (e f : Ws) (K : Nat) (w : World) (h1 : Lst w g1 c1 e) (h2 : Lst w g2 c2 f) (hs : e.length + f.length ≤ 4096) (hK : K + 52 ≤ 880)
    (hT : mass (vals e) + mass (vals f) + f.length * (e.length + f.length) * 2 ^ K ≤ 2 ^ 52 * 2 ^ K) :
    Calls Try.prog 77 #[.slice (some ⟨g1, 0, none⟩) e.length c1, .slice (some ⟨g2, 0, none⟩) f.length c2] w fun e' w' =>
      ∃ (g3 : Nat) (out : Ws), e' = .returned (.slice (some ⟨g3, 0, none⟩) out.length (e.length + f.length)) ∧ Hid (Lst w' g3 (e.length + f.length) out ∧ w.heap.size ≤ g3 ∧ New w w' ∧ AddInv (-1) e f K f.length out) := by
  have HT : Hid (mass (vals e) + mass (vals f) + f.length * (e.length + f.length) * 2 ^ K ≤ 2 ^ 52 * 2 ^ K) := hT
  clear hT
  have hng := fneg
  go_enter Try.func77, Try.ntmps77
  go_wp2_with fail
  refine (copy_any g1 c1 e f.length w h1 (by omega)).mono ?_
  rintro e' w1 ⟨rfl, H1⟩
  go_wp2_with fail
  go_loopw [5, 14] (fun v i wr => ∃ (k : Nat) (S : Ws), i = .int .i64 k ∧ v = .slice (some ⟨w.heap.size, 0, none⟩) S.length (e.length + f.length) ∧ Hid (Lst wr w.heap.size (e.length + f.length) S ∧ New w wr ∧ AddInv (-1) e f K k S))
    (fun _ i _ => f.length - (intOf i).toNat)
  case atStart => exact ⟨0, e, rfl, rfl, H1.out.1, H1.out.2, AddInv.start (-1) e f K⟩
  case round =>
    obtain ⟨k, S, rfl, rfl, H⟩ := hrel
    have hle := H.out.2.2.le
    by_cases hk : k < f.length
    · have hcell := (h2.kept H.out.2.1 (by simp)).cell hk
      go_wp2_with fail
      refine (add_step H.out.2.2 hk (ng f[k].1, -f[k].2) (h2.words _ (List.getElem_mem hk)).neg (ex_reps h2.ex _ (List.getElem_mem hk)).neg (by simp) (by simp) hK HT.out H.out.1).mono ?_
      rintro e' w2 ⟨out, rfl, H2⟩
      go_wp2_with fail
      go_roundw
      case rel => exact ⟨k + 1, out, by go_num, rfl, H2.out.1, H.out.2.1.trans H2.out.2.2 (by rintro g ⟨⟩; exact Nat.le_refl _), H2.out.2.1⟩
      case measure => simp [intOf]; omega
    · have hk2 : k = f.length := by omega
      subst hk2
      go_wp2_with fail
      go_ret
      exact ⟨w.heap.size, S, rfl, H.out.1, Nat.le_refl _, H.out.2.1, H.out.2.2⟩

/-- The sign of a number. -/
def sgn (x : Int) : Int := if x < 0 then -1 else if x = 0 then 0 else 1

theorem order_neg {l : Nat × Int} (h : F l.1 l.2 0) : (FloatKind.f64.format.order l.1 0 == some .lt) = true ↔ l.2 < 0 := by
  have h0 : F 0 0 0 := F.ofInt 0 (by decide)
  have e2 : FloatKind.f64.format.order l.1 0 = some (compare l.2 0) := h.order h0
  rw [e2]
  rcases Int.lt_trichotomy l.2 0 with hz | hz | hz
  · rw [Int.compare_eq_lt.2 hz]; simp [hz]
  · rw [Int.compare_eq_eq.2 hz]; simp [hz]
  · rw [Int.compare_eq_gt.2 hz]; simp; omega

set_option maxHeartbeats 400000 in
theorem sign_any (g c : Nat) (e : Ws) (w : World) (h : Lst w g c e) :
    Calls Try.prog 78 #[.slice (some ⟨g, 0, none⟩) e.length c] w fun e' w' => e' = .returned (.int .i64 (sgn (total (vals e)))) ∧ w' = w := by
  have hsm := h.small
  have hle := h.le
  by_cases h0 : e.length = 0
  · have hn : e = [] := List.eq_nil_of_length_eq_zero h0
    subst hn
    go_enter Try.func78, Try.ntmps78
    go_wp2
    go_ret
    exact ⟨rfl, rfl⟩
  · have hlt : e.length - 1 < e.length := by omega
    have hcell := h.cell hlt
    have hF := h.words _ (List.getElem_mem hlt)
    have hv : vals e ≠ [] := by intro h1; simp [vals] at h1; subst h1; simp at h0
    have hs := h.ex.sign hv
    have hlast : (vals e).getLast hv = e[e.length - 1].2 := by rw [List.getLast_eq_getElem]; simp [vals]
    rw [hlast] at hs
    have hz : ((e.length : Int) == 0) = false := by rw [beq_eq_false_iff_ne]; omega
    have HS : Hid (((FloatKind.f64.format.order e[e.length - 1].1 0 == some .lt) = true ↔ e[e.length - 1].2 < 0) ∧ (total (vals e) < 0 ↔ e[e.length - 1].2 < 0) ∧ total (vals e) ≠ 0) := ⟨order_neg hF, hs.1, hs.2.2⟩
    clear hF hs hlast hv
    by_cases hneg : (FloatKind.f64.format.order e[e.length - 1].1 0 == some .lt) = true
    · have ht : sgn (total (vals e)) = -1 := by unfold sgn; rw [if_pos (HS.out.2.1.2 (HS.out.1.1 hneg))]
      rw [ht]
      go_enter Try.func78, Try.ntmps78
      go_wp2
      go_ret
      exact ⟨rfl, rfl⟩
    · have hneg' : (FloatKind.f64.format.order e[e.length - 1].1 0 == some .lt) = false := by simpa using hneg
      have ht : sgn (total (vals e)) = 1 := by
        unfold sgn
        rw [if_neg (fun h1 => hneg (HS.out.1.2 (HS.out.2.1.1 h1))), if_neg HS.out.2.2]
      rw [ht]
      clear hneg
      go_enter Try.func78, Try.ntmps78
      go_wp2
      go_ret
      exact ⟨rfl, rfl⟩

end Go.Proofs.Ytgeoffpcmkofkaa
/- 'Times' of expansions. -/
namespace Go.Proofs.Ytgeoffpcmkofkaa
open Go.RowKit Fl
set_option maxRecDepth 100000

/-- Products, at part i of the one, x, and part j of the other. -/
structure MulInv (e f : Ws) (K i : Nat) (x : Int) (j : Nat) (S : Ws) : Prop where
  len : S.length ≤ 2 * (i * f.length + j)
  tot : total (vals S) = total (vals (e.take i)) * total (vals f) + x * total (vals (f.take j))
  bound : mass (vals S) ≤ mass (vals (e.take i)) * mass (vals f) + x.natAbs * mass (vals (f.take j)) + ((i * f.length + j : Nat) : Int) * (4 * (e.length * f.length : Nat) + 1) * 2 ^ K

theorem MulInv.start (e f : Ws) (K : Nat) (x : Int) : MulInv e f K 0 x 0 [] := ⟨by simp, by simp [vals, total], by simp [vals, mass]⟩

/-- The next part of the one. -/
theorem MulInv.outer {e f : Ws} {K i : Nat} {S : Ws} (hi : i < e.length) (h : MulInv e f K i e[i].2 f.length S) (x : Int) : MulInv e f K (i + 1) x 0 S := by
  have e1 : (i + 1) * f.length + 0 = i * f.length + f.length := by grind
  refine ⟨by rw [e1]; exact h.len, ?_, ?_⟩
  · rw [h.tot, total_take hi, List.take_length]; simp [vals, total]; grind
  · have hb := h.bound
    rw [List.take_length] at hb
    rw [e1, mass_take hi]
    simp only [List.take_zero, vals, List.map_nil, mass] at hb ⊢
    have e2 : (mass ((e.take i).map (·.2)) + (e[i].2.natAbs : Int)) * mass (f.map (·.2)) = mass ((e.take i).map (·.2)) * mass (f.map (·.2)) + (e[i].2.natAbs : Int) * mass (f.map (·.2)) := by grind
    rw [e2]
    omega

theorem MulInv.any {e f : Ws} {K i : Nat} {S : Ws} {x : Int} (h : MulInv e f K i x 0 S) (y : Int) : MulInv e f K i y 0 S :=
  ⟨h.len, by rw [h.tot]; simp [vals, total], by simpa [vals, mass] using h.bound⟩

theorem mass_take_le (f : Ws) (j : Nat) : mass (vals (f.take j)) ≤ mass (vals f) := by
  have := mass_append (vals (f.take j)) (vals (f.drop j))
  rw [← vals_append, List.take_append_drop] at this
  have := mass_nonneg (vals (f.drop j))
  omega

theorem mass_part {e f : Ws} {i j : Nat} (hi : i < e.length) : mass (vals (e.take i)) * mass (vals f) + (e[i].2.natAbs : Int) * mass (vals (f.take j)) ≤ mass (vals e) * mass (vals f) := by
  have h1 := mass_take hi
  have h2 := mass_take_le e (i + 1)
  have h3 := mass_take_le f j
  have h4 := mass_nonneg (vals f)
  have h5 : (e[i].2.natAbs : Int) * mass (vals (f.take j)) ≤ (e[i].2.natAbs : Int) * mass (vals f) := Int.mul_le_mul_of_nonneg_left h3 (by omega)
  have h6 : (mass (vals (e.take i)) + (e[i].2.natAbs : Int)) * mass (vals f) ≤ mass (vals e) * mass (vals f) := Int.mul_le_mul_of_nonneg_right (by omega) h4
  have h7 : (mass (vals (e.take i)) + (e[i].2.natAbs : Int)) * mass (vals f) = mass (vals (e.take i)) * mass (vals f) + (e[i].2.natAbs : Int) * mass (vals f) := by grind
  omega

theorem place_lt {n m i j : Nat} (hi : i < n) (hj : j < m) : i * m + j + 1 ≤ n * m := by
  have h1 : (i + 1) * m ≤ n * m := Nat.mul_le_mul_right m hi
  have h2 : (i + 1) * m = i * m + m := by grind
  omega

theorem mul_arith {A P X U C4 len len1 K2 s l xy mS mS1 mS2 : Int} (hK : 0 < K2) (hxy : xy ≤ P) (hA : mS ≤ A + U * K2) (hP : A + P + (U + C4) * K2 ≤ X) (hX : X ≤ 4503599627370496 * K2)
    (hl : l * 9007199254740992 ≤ xy) (h0 : 0 ≤ l) (hxy0 : 0 ≤ A) (hU : 0 ≤ U) (hs : s ≤ xy + l) (hl1 : len + len1 + 1 ≤ C4) (h0l : 0 ≤ len) (h0l1 : 0 ≤ len1)
    (h1 : mS1 ≤ l + mS + len * K2) (h2 : mS2 ≤ s + mS1 + len1 * K2) :
    l + mS + len * K2 ≤ X ∧ s + mS1 + len1 * K2 ≤ X ∧ mS2 ≤ A + xy + (U + C4) * K2 := by
  have e1 : (U + C4) * K2 = U * K2 + C4 * K2 := by grind
  have e2 : (len + len1 + 1) * K2 ≤ C4 * K2 := Int.mul_le_mul_of_nonneg_right hl1 (by omega)
  have e3 : (len + len1 + 1) * K2 = len * K2 + len1 * K2 + K2 := by grind
  have e4 : 0 ≤ len * K2 := Int.mul_nonneg h0l (by omega)
  have e5 : 0 ≤ len1 * K2 := Int.mul_nonneg h0l1 (by omega)
  have e6 : 0 ≤ U * K2 := Int.mul_nonneg hU (by omega)
  rw [e1] at hP ⊢
  generalize U * K2 = u at *
  generalize C4 * K2 = c at *
  generalize len * K2 = a at *
  generalize len1 * K2 = b at *
  omega

/-- What is asked of the two factors. -/
structure MulPre (e f : Ws) (K : Nat) : Prop where
  we : Fs e
  wf : Fs f
  xe : Ex (vals e)
  xf : Ex (vals f)
  few : e.length * f.length ≤ 1024
  place : K + 52 ≤ 880
  bound : mass (vals e) * mass (vals f) + ((e.length * f.length : Nat) : Int) * (4 * (e.length * f.length : Nat) + 1) * 2 ^ K ≤ 2 ^ 52 * 2 ^ K

/-- The product of two parts, split. -/
structure Rd (x y : Int) (s l : Nat × Int) : Prop where
  rnd : Rnd (x * y) s.2
  ws : F s.1 s.2 0
  lost : l.2 = x * y - s.2
  wl : F l.1 l.2 0
  rep : Rep l.2

theorem part_le {e : Ws} {i : Nat} (hi : i < e.length) : (e[i].2.natAbs : Int) ≤ mass (vals e) := by
  have h1 := mass_take hi
  have h2 := mass_take_le e (i + 1)
  have h3 := mass_nonneg (vals (e.take i))
  omega

theorem prod_le {e f : Ws} {i j : Nat} (hi : i < e.length) (hj : j < f.length) : ((e[i].2 * f[j].2).natAbs : Int) ≤ mass (vals e) * mass (vals f) := by
  rw [Int.natAbs_mul, Int.natCast_mul]
  exact Int.mul_le_mul (part_le hi) (part_le hj) (by omega) (mass_nonneg _)

theorem mul_split {e f : Ws} {K i j : Nat} (hp : MulPre e f K) (hi : i < e.length) (hj : j < f.length) (w : World) :
    Calls Try.prog 95 #[.float .f64 e[i].1, .float .f64 f[j].1] w fun e' w' => ∃ s l : Nat × Int, e' = .returned (.tuple #[.float .f64 s.1, .float .f64 l.1]) ∧ w = w' ∧ Hid (Rd e[i].2 f[j].2 s l) := by
  have h1 := prod_le hi hj
  have h2 := hp.bound
  have h3 : 0 ≤ ((e.length * f.length : Nat) : Int) * (4 * (e.length * f.length : Nat) + 1) * 2 ^ K := Int.mul_nonneg (Int.mul_nonneg (by omega) (by omega)) (by have := p2_pos K; omega)
  have h4 : (2 : Int) ^ 52 * 2 ^ K < Mid := by rw [← p2_add]; exact p2_lt_Mid (by have := hp.place; omega)
  refine (splitProduct_any e[i] f[j] w (hp.we _ (List.getElem_mem hi)) (hp.wf _ (List.getElem_mem hj)) (ex_reps hp.xe _ (List.getElem_mem hi)) (ex_reps hp.xf _ (List.getElem_mem hj)) (by omega)).mono ?_
  rintro e' w' ⟨s, l, rfl, rfl, h1, h2, h3, h4, h5⟩
  exact ⟨s, l, rfl, rfl, h1, h2, h3, h4, h5⟩

/-- All that the two calls of 'grow' in a round need. -/
theorem mul_round {e f : Ws} {K i j : Nat} {S S1 : Ws} {s l : Nat × Int} (hp : MulPre e f K) (hi : i < e.length) (hj : j < f.length) (h : MulInv e f K i e[i].2 j S) (hr : Rd e[i].2 f[j].2 s l)
    (hl1 : S1.length ≤ S.length + 1) (hm1 : mass (vals S1) ≤ (l.2.natAbs : Int) + mass (vals S) + S.length * 2 ^ K) :
    (l.2.natAbs : Int) + mass (vals S) + S.length * 2 ^ K ≤ 2 ^ 52 * 2 ^ K ∧ (s.2.natAbs : Int) + mass (vals S1) + S1.length * 2 ^ K ≤ 2 ^ 52 * 2 ^ K ∧
    ∀ S2 : Ws, S2.length ≤ S1.length + 1 → total (vals S1) = l.2 + total (vals S) → total (vals S2) = s.2 + total (vals S1) → mass (vals S2) ≤ (s.2.natAbs : Int) + mass (vals S1) + S1.length * 2 ^ K → MulInv e f K i e[i].2 (j + 1) S2 := by
  have hpl := place_lt hi hj
  have hlen := h.len
  have hrel := hr.rnd.rel
  have e53 : (2 : Int) ^ 53 = 9007199254740992 := by decide
  have e52 : (2 : Int) ^ 52 = 4503599627370496 := by decide
  rw [← hr.lost, e53] at hrel
  have hmp := mass_part (f := f) (j := j + 1) hi
  have hK := p2_pos K
  have hb := hp.bound
  rw [e52] at hb ⊢
  have hU : (((i * f.length + j : Nat) : Int) * (4 * (e.length * f.length : Nat) + 1) + (4 * (e.length * f.length : Nat) + 1)) * 2 ^ K ≤ ((e.length * f.length : Nat) : Int) * (4 * (e.length * f.length : Nat) + 1) * 2 ^ K := by
    refine Int.mul_le_mul_of_nonneg_right ?_ (by omega)
    have h1 : (((i * f.length + j + 1 : Nat) : Int)) * (4 * (e.length * f.length : Nat) + 1) ≤ ((e.length * f.length : Nat) : Int) * (4 * (e.length * f.length : Nat) + 1) := Int.mul_le_mul_of_nonneg_right (by omega) (by omega)
    have h2 : (((i * f.length + j + 1 : Nat) : Int)) * (4 * (e.length * f.length : Nat) + 1) = ((i * f.length + j : Nat) : Int) * (4 * (e.length * f.length : Nat) + 1) + (4 * (e.length * f.length : Nat) + 1) := by
      rw [Int.natCast_add (i * f.length + j) 1]; grind
    omega
  have hA0 : 0 ≤ mass (vals (e.take i)) * mass (vals f) + e[i].2.natAbs * mass (vals (f.take j)) :=
    Int.add_nonneg (Int.mul_nonneg (mass_nonneg _) (mass_nonneg _)) (Int.mul_nonneg (by omega) (mass_nonneg _))
  have hxy : ((e[i].2 * f[j].2).natAbs : Int) = e[i].2.natAbs * f[j].2.natAbs := by rw [Int.natAbs_mul, Int.natCast_mul]
  have hmt : mass (vals (e.take i)) * mass (vals f) + e[i].2.natAbs * mass (vals (f.take (j + 1))) = mass (vals (e.take i)) * mass (vals f) + e[i].2.natAbs * mass (vals (f.take j)) + ((e[i].2 * f[j].2).natAbs : Int) := by
    rw [mass_take hj, hxy]; grind
  have hlst := hr.lost
  have hU0 : 0 ≤ ((i * f.length + j : Nat) : Int) * (4 * (e.length * f.length : Nat) + 1) := Int.mul_nonneg (by omega) (by omega)
  have hbd := h.bound
  have key := fun (mS2 : Int) (h2 : mS2 ≤ (s.2.natAbs : Int) + mass (vals S1) + S1.length * 2 ^ K) =>
    mul_arith (A := mass (vals (e.take i)) * mass (vals f) + e[i].2.natAbs * mass (vals (f.take j))) (P := ((e[i].2 * f[j].2).natAbs : Int)) (X := 4503599627370496 * 2 ^ K) (U := ((i * f.length + j : Nat) : Int) * (4 * (e.length * f.length : Nat) + 1)) (C4 := 4 * (e.length * f.length : Nat) + 1)
      (len := S.length) (len1 := S1.length) (s := s.2.natAbs) (l := l.2.natAbs) (xy := ((e[i].2 * f[j].2).natAbs : Int)) hK (Int.le_refl _) hbd (by rw [← hmt]; omega) (Int.le_refl _) hrel (by omega) hA0 hU0 (by omega) (by omega) (by omega) (by omega) hm1 h2
  refine ⟨(key _ (Int.le_refl _)).1, (key _ (Int.le_refl _)).2.1, ?_⟩
  intro S2 hl2 ht1 ht2 hm2
  refine ⟨by omega, ?_, ?_⟩
  · rw [ht2, ht1, h.tot, total_take hj, hr.lost]; grind
  · have := (key _ hm2).2.2
    rw [hmt]
    have e1 : ((i * f.length + (j + 1) : Nat) : Int) * (4 * (e.length * f.length : Nat) + 1) = ((i * f.length + j : Nat) : Int) * (4 * (e.length * f.length : Nat) + 1) + (4 * (e.length * f.length : Nat) + 1) := by
      rw [← Nat.add_assoc, Int.natCast_add (i * f.length + j) 1]; grind
    rw [e1]
    exact this

end Go.Proofs.Ytgeoffpcmkofkaa
/- The walk of 'Times'. -/
namespace Go.Proofs.Ytgeoffpcmkofkaa
open Go.RowKit Fl
set_option maxRecDepth 100000

theorem mul_grow1 {e f : Ws} {K i j : Nat} {S : Ws} {s l : Nat × Int} {w : World} {g cap : Nat} (hp : MulPre e f K) (hi : i < e.length) (hj : j < f.length) (h : MulInv e f K i e[i].2 j S) (hr : Rd e[i].2 f[j].2 s l)
    (hc : cap = 2 * e.length * f.length) (hl : Lst w g cap S) :
    Calls Try.prog 96 #[.slice (some ⟨g, 0, none⟩) S.length cap, .float .f64 l.1] w fun e' w' =>
      ∃ out : Ws, e' = .returned (.slice (some ⟨g, 0, none⟩) out.length cap) ∧ Hid (Lst w' g cap out ∧ total (vals out) = l.2 + total (vals S) ∧ out.length ≤ S.length + 1 ∧ mass (vals out) ≤ (l.2.natAbs : Int) + mass (vals S) + S.length * 2 ^ K ∧ w.grownBy w' (some g)) := by
  have hpl := place_lt hi hj
  have hlen := h.len
  have hc2 : cap = 2 * (e.length * f.length) := by rw [hc]; grind
  refine (grow_at g cap S l K w hl (by omega) hr.wl hr.rep hp.place (mul_round (S1 := []) hp hi hj h hr (by simp) (by
    have h1 := mass_nonneg (vals S)
    have h2 : 0 ≤ (S.length : Int) * 2 ^ K := Int.mul_nonneg (by omega) (by have := p2_pos K; omega)
    simp only [vals, List.map_nil, mass] at h1 ⊢
    omega)).1).mono ?_
  rintro e' w' ⟨out, rfl, h1, h2, h3, h4, h5⟩
  exact ⟨out, rfl, h1, h2, h3, h4, h5⟩

theorem mul_grow2 {e f : Ws} {K i j : Nat} {S S1 : Ws} {s l : Nat × Int} {w : World} {g cap : Nat} (hp : MulPre e f K) (hi : i < e.length) (hj : j < f.length) (h : MulInv e f K i e[i].2 j S) (hr : Rd e[i].2 f[j].2 s l)
    (hc : cap = 2 * e.length * f.length) (hl : Lst w g cap S1) (ht1 : total (vals S1) = l.2 + total (vals S)) (hl1 : S1.length ≤ S.length + 1) (hm1 : mass (vals S1) ≤ (l.2.natAbs : Int) + mass (vals S) + S.length * 2 ^ K) :
    Calls Try.prog 96 #[.slice (some ⟨g, 0, none⟩) S1.length cap, .float .f64 s.1] w fun e' w' =>
      ∃ out : Ws, e' = .returned (.slice (some ⟨g, 0, none⟩) out.length cap) ∧ Hid (Lst w' g cap out ∧ MulInv e f K i e[i].2 (j + 1) out ∧ w.grownBy w' (some g)) := by
  have hpl := place_lt hi hj
  have hlen := h.len
  have hc2 : cap = 2 * (e.length * f.length) := by rw [hc]; grind
  have hrd := mul_round hp hi hj h hr hl1 hm1
  refine (grow_at g cap S1 s K w hl (by omega) hr.ws hr.rnd.rep hp.place hrd.2.1).mono ?_
  rintro e' w' ⟨out, rfl, h1, h2, h3, h4, h5⟩
  exact ⟨out, rfl, h1, hrd.2.2 out h3 ht1 h2 h4, h5⟩

set_option maxHeartbeats 1600000 in
theorem times_any (g1 c1 g2 c2 : Nat) (e f : Ws) (K : Nat) (w : World) (h1 : Lst w g1 c1 e) (h2 : Lst w g2 c2 f) (hp : MulPre e f K) :
    Calls Try.prog 76 #[.slice (some ⟨g1, 0, none⟩) e.length c1, .slice (some ⟨g2, 0, none⟩) f.length c2] w fun e' w' =>
      ∃ (g3 cap : Nat) (out : Ws), e' = .returned (.slice (some ⟨g3, 0, none⟩) out.length cap) ∧ Hid (Lst w' g3 cap out ∧ w.heap.size ≤ g3 ∧ New w w' ∧ MulInv e f K e.length 0 0 out) := by
  obtain ⟨i0, hi, hz0, hz1, hz2⟩ := info_parts Try.info81
  have hl1 := h1.le
  have hl2 := h2.le
  have hs1 := h1.small
  have hs2 := h2.small
  have hfew := hp.few
  obtain ⟨cap, hcap⟩ : ∃ cap : Nat, cap = 2 * e.length * f.length := ⟨_, rfl⟩
  have hcapI : (2 * (e.length : Int) * f.length) = cap := by rw [hcap]; simp
  have hcap1 : cap ≤ 2048 := by have : 2 * e.length * f.length = 2 * (e.length * f.length) := by grind
                                omega
  have HC : Hid (cap = 2 * e.length * f.length) := hcap
  clear hcap hfew
  go_enter Try.func76, Try.ntmps76
  go_wp2_with (at_make; refine wpList_make_own _ rfl _ _ 87 rfl w.heap.size 81 i0 (.float .f64 0) 1 Try.underlying87 hi hz0 hz1 _ _ _ cap rfl rfl ?b1 ?b2 ?b3 (Nat.le_refl _) ?_)
  case b1 => rfl
  case b2 => rw [hz2]; omega
  case b3 => unfold maxLen; omega
  intro w0 hown0 hgrow0
  have HL : Hid (Lst w0 w.heap.size cap [] ∧ New w w0) := ⟨new_lst (by omega) hown0, hgrow0⟩
  clear hown0 hgrow0 hi hz0 hz1 hz2 hcapI
  go_wp2_with fail
  go_loopw [5, 21] (fun v i wr => ∃ (k : Nat) (S : Ws), i = .int .i64 k ∧ v = .slice (some ⟨w.heap.size, 0, none⟩) S.length cap ∧ k ≤ e.length ∧ Hid (Lst wr w.heap.size cap S ∧ New w wr ∧ MulInv e f K k 0 0 S))
    (fun _ i _ => e.length - (intOf i).toNat)
  case atStart => exact ⟨0, [], rfl, rfl, Nat.zero_le _, HL.out.1, HL.out.2, MulInv.start e f K 0⟩
  case round =>
    obtain ⟨k, S, rfl, rfl, hle, H⟩ := hrel
    by_cases hk : k < e.length
    · have hcell := (h1.kept H.out.2.1 (by simp)).cell hk
      go_wp2_with fail
      go_loopw [5, 27] (fun v i wr => ∃ (j : Nat) (S : Ws), i = .int .i64 j ∧ v = .slice (some ⟨w.heap.size, 0, none⟩) S.length cap ∧ j ≤ f.length ∧ Hid (Lst wr w.heap.size cap S ∧ New w wr ∧ MulInv e f K k e[k].2 j S))
        (fun _ i _ => f.length - (intOf i).toNat)
      case atStart => exact ⟨0, S, rfl, rfl, Nat.zero_le _, H.out.1, H.out.2.1, H.out.2.2.any _⟩
      case round =>
        obtain ⟨j, S', rfl, rfl, hle', H'⟩ := hrel
        by_cases hj : j < f.length
        · have hcell' := (h2.kept H'.out.2.1 (by simp)).cell hj
          go_wp2_with fail
          refine (mul_split hp hk hj _).mono ?_
          rintro e' w1 ⟨s, l, rfl, rfl, HR⟩
          go_wp2_with fail
          refine (mul_grow1 hp hk hj H'.out.2.2 HR.out HC.out H'.out.1).mono ?_
          rintro e' w2 ⟨S1, rfl, H1⟩
          go_wp2_with fail
          refine (mul_grow2 hp hk hj H'.out.2.2 HR.out HC.out H1.out.1 H1.out.2.1 H1.out.2.2.1 H1.out.2.2.2.1).mono ?_
          rintro e' w3 ⟨S2, rfl, H2⟩
          go_wp2_with fail
          go_roundw
          case rel => exact ⟨j + 1, S2, by go_num, rfl, hj, H2.out.1, (H'.out.2.1.trans H1.out.2.2.2.2 (by rintro g ⟨⟩; exact Nat.le_refl _)).trans H2.out.2.2 (by rintro g ⟨⟩; exact Nat.le_refl _), H2.out.2.1⟩
          case measure => simp [intOf]; omega
        · have hj2 : j = f.length := by omega
          subst hj2
          go_wp2_with fail
          go_roundw
          case rel => exact ⟨k + 1, S', by go_num, rfl, hk, H'.out.1, H'.out.2.1, H'.out.2.2.outer hk 0⟩
          case measure => simp [intOf]; omega
    · have hk2 : k = e.length := by omega
      subst hk2
      go_wp2_with fail
      go_ret
      exact ⟨w.heap.size, cap, S, rfl, H.out.1, Nat.le_refl _, H.out.2.1, H.out.2.2⟩

end Go.Proofs.Ytgeoffpcmkofkaa
