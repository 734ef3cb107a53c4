/- The walk of 'grow'. -/
import Derived.Test.YtgeoffpcmkofkaaWa
namespace Go.Proofs.Ytgeoffpcmkofkaa
open Go.RowKit Fl
set_option maxRecDepth 100000

/-- The cell of a word. -/
def fw (p : Nat × Int) : Value := .float .f64 p.1

theorem Try.info81 : (Try.prog.info? 81).map (fun i => (i.zero, i.size, i.bytes)) = some (some (.float .f64 0), 1, 8) := by kernel_rfl

theorem wpList_append_exact {P : Program} (w : World) {ops : Array Oper} {rest : List Oper} {o : Oper} {a : Act} {Q : Exit → Act → World → Prop}
    (hgd : o.guard = none) (s x : Operand) (t : TypeId) (hop : o.op = Op.call { callee := Callee.builtin Builtin.append, args := #[s, x], argTypes := #[t, t] })
    (e : TypeId) (i : TypeInfo) (h1 : P.underlying t = some (.slice e)) (h2 : P.info? e = some i) (h4 : i.size = 1)
    (g k cap : Nat) (cur : Array Value) (hg : w.heap[g]? = some (.cells cur e (0, 0))) (hs : a.eval s = .slice (some ⟨g, 0, none⟩) k cap) (ad : Addr) (u : Value) (hx : a.eval x = .slice (some ad) 1 1)
    (hc : ∀ j v, [u][j]? = some v → w.cell? (ad.add j) = some v) (h1c : u.oneCell' = true) (hsz : cur.size = cap) (hroom : k < cap)
    (hK : ∀ w' (cur' : Array Value), w'.heap[g]? = some (.cells cur' e (0, 0)) → cur'.size = cap → cur'.toList.take (k + 1) = cur.toList.take k ++ [u] → (∀ j, k < j → cur'[j]? = cur[j]?) → w.grownBy w' (some g) → wpList P ops Q rest (a.put o.dst (.slice (some ⟨g, 0, none⟩) (k + 1) cap)) w') :
    wpList P ops Q (o :: rest) a w := by
  refine wpList_plain hgd fun K hK' => ?_
  have hr := run_append_room (P := P) w t o.type e i h1 h2 g k cap cur hg ad 1 1 [u] (by rw [h4]; rfl) hc (by simp [h1c]) (by omega) (by rw [h4]; simp; omega)
  rw [h4, Nat.mul_one] at hr
  unfold Oper.wp
  simp [execOp, hop, resolve, invoke, builtin, hs, hx, hr, Result.andThen]
  have hlen : cur.toList.length = cap := by simpa using hsz
  refine hK' _ _ (hK _ (cur.toList.take k ++ [u] ++ cur.toList.drop (k + 1)).toArray ?_ ?_ ?_ ?_ ?_)
  · have := setRow_heap w g cur (cur.toList.take k ++ [u] ++ cur.toList.drop (k + 1)).toArray e _ hg
    simpa using this
  · simp; omega
  · have e1 : (cur.toList.take k ++ [u]).length = k + 1 := by simp; omega
    have : (cur.toList.take k ++ [u] ++ cur.toList.drop (k + 1)).take (k + 1) = cur.toList.take k ++ [u] := by
      rw [← e1]; exact List.take_left
    simpa using this
  · intro j hj
    rw [List.getElem?_toArray, List.getElem?_append_right (by simp; omega), List.getElem?_drop]
    have e1 : (cur.toList.take k ++ [u]).length = k + 1 := by simp; omega
    rw [e1, Nat.add_sub_cancel' (by omega)]
    simp
  · exact ⟨rfl, rfl, rfl, by simp, fun k' _ hk => setRow_other w g k' _ (fun e => hk (by simp [e]))⟩

/-- What holds in the memory at part k of the growing. -/
structure GrMem (w wr : World) (g cap : Nat) (es : Ws) (k : Nat) (O : Ws) (cr : Array Value) : Prop where
  row : wr.heap[g]? = some (.cells cr 81 (0, 0))
  size : cr.size = cap
  done : cr.toList.take O.length = O.map fw
  todo : ∀ j, k ≤ j → (h : j < es.length) → cr[j]? = some (fw es[j])
  grown : w.grownBy wr (some g)

theorem GrMem.cell {w wr : World} {g cap k : Nat} {es O : Ws} {cr : Array Value} (h : GrMem w wr g cap es k O cr) (hk : k < es.length) : wr.cell? ⟨g, k, none⟩ = some (.float .f64 es[k].1) := by
  rw [cell_of_row wr g k cr 81 (0, 0) h.row, h.todo k (Nat.le_refl _) hk]; rfl

/-- What is asked of the parts that come in. -/
structure GrPre (es : Ws) (b : Nat × Int) (T : Int) (K : Nat) : Prop where
  words : Fs es
  reps : ∀ p ∈ es, Rep p.2
  word : F b.1 b.2 0
  rep : Rep b.2
  count : T + es.length * 2 ^ K ≤ 2 ^ 52 * 2 ^ K
  place : K + 52 ≤ 880
  bound : (b.2.natAbs : Int) + mass (vals es) ≤ T

theorem order_zero {l : Nat × Int} (h : F l.1 l.2 0) : (FloatKind.f64.format.order l.1 0 != some .eq) = true ↔ l.2 ≠ 0 := by
  have h0 : F 0 0 0 := F.ofInt 0 (by decide)
  have e := h.order h0
  have e2 : FloatKind.f64.format.order l.1 0 = some (compare l.2 0) := e
  rw [e2]
  by_cases hz : l.2 = 0
  · rw [hz]; decide
  · have : compare l.2 0 ≠ .eq := fun h => hz (Int.compare_eq_eq.1 h)
    simp [hz]

/-- One call of splitSum in the round. -/
theorem split_step {b : Nat × Int} {es : Ws} {T : Int} {K k : Nat} {Q : Nat × Int} {O : Ws} (hp : GrPre es b T K) (h : GrInv b.2 es T K k Q O) (hk : k < es.length) (w : World) :
    Calls Try.prog 105 #[.float .f64 Q.1, .float .f64 es[k].1] w fun e w' => ∃ s l : Nat × Int, e = .returned (.tuple #[.float .f64 s.1, .float .f64 l.1]) ∧ w = w' ∧ Hid (F l.1 l.2 0 ∧ (l.2 ≠ 0 → GrInv b.2 es T K (k + 1) s (O ++ [l])) ∧ (l.2 = 0 → GrInv b.2 es T K (k + 1) s O)) := by
  refine (splitSum_any Q es[k] w h.word (hp.words _ (List.getElem_mem hk)) h.rep (hp.reps _ (List.getElem_mem hk)) (h.small hk hp.count hp.place)).mono ?_
  rintro e w' ⟨s, l, rfl, rfl, h1, h2, h3, h4⟩
  exact ⟨s, l, rfl, rfl, h4, fun h0 => h.keep hk hp.count h1 h2 h3 h4 h0, fun h0 => h.skip hk hp.count h1 h2 (by rw [← h3]; exact h0)⟩

theorem GrMem.next {w wr w1 : World} {g cap k : Nat} {es O : Ws} {cr cr' : Array Value} {l : Nat × Int} {o : Obj} (h : GrMem w wr g cap es k O cr) (hO : O.length ≤ k)
    (r1 : w1.heap[g]? = some (.cells cr' 81 (0, 0))) (r2 : cr'.size = cap) (r3 : cr'.toList.take (O.length + 1) = cr.toList.take O.length ++ [fw l]) (r4 : ∀ j, O.length < j → cr'[j]? = cr[j]?) (r5 : (wr.alloc o).grownBy w1 (some g)) :
    GrMem w w1 g cap es (k + 1) (O ++ [l]) cr' := by
  refine ⟨r1, r2, ?_, ?_, ?_⟩
  · rw [List.length_append, List.length_singleton, r3, h.done]; simp
  · intro j hj hlt
    rw [r4 j (by omega)]
    exact h.todo j (by omega) hlt
  · have g1 := h.grown
    have hs : (wr.alloc o).heap.size = wr.heap.size + 1 := by simp
    refine ⟨r5.os.trans g1.os, r5.tape.trans g1.tape, r5.output.trans g1.output, ?_, ?_⟩
    · have := r5.size; have := g1.size; omega
    · intro k' hk' hne
      have hk2 : k' < wr.heap.size := Nat.lt_of_lt_of_le hk' g1.size
      rw [r5.block k' (by omega) hne, _root_.Go.heap_alloc_old wr o hk2, g1.block k' hk' hne]

theorem GrMem.skip {w wr : World} {g cap k : Nat} {es O : Ws} {cr : Array Value} (h : GrMem w wr g cap es k O cr) : GrMem w wr g cap es (k + 1) O cr :=
  ⟨h.row, h.size, h.done, fun j hj hlt => h.todo j (by omega) hlt, h.grown⟩

theorem GrMem.rowAlloc {w wr : World} {g cap k : Nat} {es O : Ws} {cr : Array Value} (h : GrMem w wr g cap es k O cr) (o : Obj) : (wr.alloc o).heap[g]? = some (.cells cr 81 (0, 0)) := by
  rw [_root_.Go.heap_alloc_old wr o (Array.getElem?_eq_some_iff.1 h.row).1]; exact h.row

set_option maxHeartbeats 1000000 in
theorem grow_any (g cap : Nat) (es : Ws) (b : Nat × Int) (T : Int) (K : Nat) (cur : Array Value) (w : World)
    (hg : w.heap[g]? = some (.cells cur 81 (0, 0))) (hsz : cur.size = cap) (hcur : cur.toList.take es.length = es.map fw) (hroom : es.length < cap) (hcap : cap ≤ 1048576) (hp : GrPre es b T K) :
    Calls Try.prog 96 #[.slice (some ⟨g, 0, none⟩) es.length cap, .float .f64 b.1] w fun e w' =>
      ∃ (out : Ws) (cur' : Array Value), e = .returned (.slice (some ⟨g, 0, none⟩) out.length cap) ∧ Grown b.2 es T K out ∧ w'.heap[g]? = some (.cells cur' 81 (0, 0)) ∧ cur'.size = cap ∧ cur'.toList.take out.length = out.map fw ∧ w.grownBy w' (some g) := by
  obtain ⟨i0, hi, hz0, hz1, hz2⟩ := info_parts Try.info81
  have hm0 : GrMem w w g cap es 0 [] cur := by
    refine ⟨hg, hsz, by simp, ?_, World.grownBy.refl _ _⟩
    intro j _ hlt
    have : (cur.toList.take es.length)[j]? = some (fw es[j]) := by rw [hcur]; simp [hlt]
    rw [List.getElem?_take_of_lt hlt] at this
    simpa using this
  have hi0 : GrInv b.2 es T K 0 b [] := GrInv.start hp.rep hp.word hp.bound
  clear hg hsz hcur
  go_enter Try.func96, Try.ntmps96
  go_wp2
  go_loopw [1, 5, 13] (fun c gr i wr => ∃ (k : Nat) (Q : Nat × Int) (O : Ws) (cr : Array Value), i = .int .i64 k ∧ c = .float .f64 Q.1 ∧ gr = .slice (some ⟨g, 0, none⟩) O.length cap ∧ GrInv b.2 es T K k Q O ∧ GrMem w wr g cap es k O cr)
    (fun _ _ i _ => es.length - (intOf i).toNat)
  case atStart => exact ⟨0, b, [], cur, rfl, rfl, rfl, hi0, hm0⟩
  case round =>
    obtain ⟨k, Q, O, cr, rfl, rfl, rfl, hinv, hmem⟩ := hrel
    have hle := hinv.le
    have hlen := hinv.len
    by_cases hk : k < es.length
    · have hcell := hmem.cell hk
      go_wp2_with (first
        | (go_at_call 105; refine (split_step hp hinv hk _).mono ?_; rintro e w' ⟨s, l, rfl, rfl, hstep⟩)
        | (at_builtin; refine wpList_append_exact _ rfl _ _ 87 rfl 81 i0 Try.underlying87 hi hz1 g O.length cap cr (hmem.rowAlloc _) rfl ⟨wr.heap.size, 0, none⟩ _ rfl (cell_one_new _ _ _) rfl hmem.size (by omega) ?_; intro w1 cr' r1 r2 r3 r4 r5))
      · have hne := (order_zero hstep.out.1).1 (by assumption)
        go_roundw
        case rel => exact ⟨k + 1, s, O ++ [l], cr', by go_num, rfl, by simp, hstep.out.2.1 hne, hmem.next hlen r1 r2 r3 r4 r5⟩
        case measure => simp [intOf]; omega
      · have hz : l.2 = 0 := by
          have h1 := order_zero hstep.out.1
          have h2 : (FloatKind.f64.format.order l.1 0 != some .eq) = false := by assumption
          rw [h2] at h1
          exact Decidable.byContradiction fun h => Bool.false_ne_true (h1.2 h)
        go_roundw
        case rel => exact ⟨k + 1, s, O, cr, by go_num, rfl, rfl, hstep.out.2.2 hz, hmem.skip⟩
        case measure => simp [intOf]; omega
    · go_wp2_with (at_builtin; refine wpList_append_exact _ rfl _ _ 87 rfl 81 i0 Try.underlying87 hi hz1 g O.length cap cr (hmem.rowAlloc _) rfl ⟨wr.heap.size, 0, none⟩ _ rfl (cell_one_new _ _ _) rfl hmem.size (by omega) ?_; intro w1 cr' r1 r2 r3 r4 r5)
      · have hne := (order_zero hinv.word).1 (by assumption)
        have hk2 : k = es.length := by omega
        subst hk2
        have hm2 := hmem.next hlen r1 r2 r3 r4 r5 (l := Q)
        go_ret
        exact ⟨O ++ [Q], cr', by simp, hinv.last hne, hm2.row, hm2.size, hm2.done, hm2.grown⟩
      · have hz : Q.2 = 0 := by
          have h1 := order_zero hinv.word
          have h2 : (FloatKind.f64.format.order Q.1 0 != some .eq) = false := by assumption
          rw [h2] at h1
          exact Decidable.byContradiction fun h => Bool.false_ne_true (h1.2 h)
        have hk2 : k = es.length := by omega
        subst hk2
        go_ret
        exact ⟨O, cr, rfl, hinv.last0 hz, hmem.row, hmem.size, hmem.done, hmem.grown⟩

end Go.Proofs.Ytgeoffpcmkofkaa
