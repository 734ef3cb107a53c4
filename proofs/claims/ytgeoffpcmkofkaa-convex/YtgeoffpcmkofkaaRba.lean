/- Lf: texts laid into one. -/
import Derived.Test.YtgeoffpcmkofkaaRaw
import Derived.Test.YtgeoffpcmkofkaaRal
import Derived.Conc.DeferLaws
import Derived.Conc.Own2
import Derived.Conc.WalkWords
/- One that works a part's corners out and sends them. -/
namespace Go.Proofs.Ytgeoffpcmkofkaa
open Go Go.Conc Go.RowKit
set_option maxRecDepth 100000

/-- A row of points among one's own. -/
def RowO (O : Nat → Prop) (w : World) (v : Value) (out : Pts) : Prop := (v = .slice none 0 0 ∧ out = []) ∨ ∃ g cap, v = .slice (some ⟨g, 0, none⟩) out.length cap ∧ O g ∧ PtsAt w g 0 out
/-- A point as a value. -/
def ptV (p : Int × Int) : Value := .agg #[.int .i64 p.1, .int .i64 p.2]
section
variable {P : Program} {S : Nat → Prop} {c : Nat} {outs : List Value} {O O' : Nat → Prop} {w w' w1 w2 : World} {b : Frame} {a : Act} {ops : Array Oper} {i : Nat} {rest : List Nat} {o : Oper} {k : List Item} {cs : List Frame}
theorem RowO.keeps {v : Value} {out : Pts} (h : RowO O w v out) (k : Keeps O S w w2) : RowO O w2 v out := by
  refine h.imp id fun ⟨g, cap, h1, h2, h3⟩ => ⟨g, cap, h1, h2, fun i hi => ?_⟩
  rw [k.cell (.inl h2), k.cell (.inl h2)]
  exact h3 i hi
theorem KT.val (v : Value) (ho : ops[i]? = some o) (hw : Region.wanted o (yielded ops a.tmps) = true) (hk : b.kind ≠ .early) (hr : ∀ w2, Keeps O S w w2 → (execOp a.eval o).run P w2 = .ok (.value v) w2) (he : ∀ w2, Keeps O S w w2 → ∀ e ∈ (execOp a.eval o).events P w2 #[], EvW O S e)
    (h : KT P S c outs O (G (b.at (a.put o.dst v) (.inRegion ops rest :: k)) cs) w) : KT P S c outs O (G (b.at a (.inRegion ops (i :: rest) :: k)) cs) w :=
  .look rfl (fun w2 k2 => ⟨_, stepG_value ho hw hk (hr w2 k2), fun e hh => he w2 k2 e (mem_listed hh)⟩) h
theorem KT.mov {x : Operand} (v : Value) (ho : ops[i]? = some o) (hw : Region.wanted o (yielded ops a.tmps) = true) (hop : o.op = .move x ∨ o.op = .assign x) (hv : a.eval x = v) (hk : b.kind ≠ .early)
    (h : KT P S c outs O (G (b.at (a.put o.dst v) (.inRegion ops rest :: k)) cs) w) : KT P S c outs O (G (b.at a (.inRegion ops (i :: rest) :: k)) cs) w := by
  refine .val v ho hw hk (fun w2 _ => ?_) (fun w2 _ => ?_) h
  · rcases hop with e | e <;> (unfold execOp; simp [e, hv])
  · rcases hop with e | e <;> (unfold execOp; simp [e])
theorem stepG_dfr {main : Bool} {d : Deferred} (ho : ops[i]? = some o) (hw : Region.wanted o (yielded ops a.tmps) = true) (hk : b.kind ≠ .early) (hr : (execOp a.eval o).run P w = .ok (.defer d) w) (he : (execOp a.eval o).events P w #[] = #[]) :
    stepG P main (G (b.at a (.inRegion ops (i :: rest) :: k)) cs) w = .go (G (b.at (Act.put ⟨a.tmps, d :: a.defers⟩ o.dst undef) (.inRegion ops rest :: k)) cs) w #[] := by
  have hfin : (b.at ⟨a.tmps, d :: a.defers⟩ (.inRegion ops (i :: rest) :: k)).finish undef = b.at (Act.put ⟨a.tmps, d :: a.defers⟩ o.dst undef) (.inRegion ops rest :: k) := by rw [Frame.finish_at, ho]; rfl
  have hk' : (b.kind == CallKind.early) = false := by simpa using hk
  rw [stepG_oper ho hw, ← hfin]
  simp [stepG.apply, hr, he, G, Frame.at, hk', GStep.after, seen_none]
end
theorem alloc_heap (w : World) (o : Obj) : (w.alloc o).heap = w.heap.push o := rfl
theorem alloc_ne {w : World} (o : Obj) {r : Nat} (hr : r < w.heap.size) : (w.alloc o).heap[r]? = w.heap[r]? := by
  rw [alloc_heap, Array.getElem?_push_lt hr, Array.getElem?_eq_getElem hr]
theorem did_alloc {O : Nat → Prop} {w : World} (o : Obj) : DidO O w (w.alloc o) :=
  ⟨rfl, rfl, rfl, by rw [alloc_heap, Array.size_push]; omega, fun r hr _ => alloc_ne o hr⟩
theorem set_size (w : World) (a : Addr) (v : Value) : (w.setCell a v).heap.size = w.heap.size := by
  unfold World.setCell
  simp
theorem did_setc {O : Nat → Prop} {w : World} (a : Addr) (v : Value) (h : O a.block) : DidO O w (w.setCell a v) :=
  ⟨rfl, rfl, rfl, by rw [set_size]; exact Nat.le_refl _, fun r _ hn => Below.heap_setCell w a v r fun e => hn (e ▸ h)⟩
theorem DidO.trans {O : Nat → Prop} {w w1 w2 : World} (h : DidO O w w1) (k : DidO O w1 w2) : DidO O w w2 := ⟨k.os.trans h.os, k.tape.trans h.tape, k.output.trans h.output, Nat.le_trans h.size k.size, fun r hr hn => (k.kept r (Nat.lt_of_lt_of_le hr h.size) hn).trans (h.kept r hr hn)⟩
/-- Two cells, written one behind the other. -/
theorem two_cells {w : World} {n : Nat} {x y u : Value} (h : w.heap[n]? = some (.cells #[x, y] 23 (0, 0))) :
    (w.cell? ⟨n, 0, none⟩ = some x ∧ w.frozen? ⟨n, 0, none⟩ = false) ∧ ((w.setCell ⟨n, 0, none⟩ u).cell? ⟨n, 1, none⟩ = some y ∧ (w.setCell ⟨n, 0, none⟩ u).frozen? ⟨n, 1, none⟩ = false) ∧ ∀ v, ((w.setCell ⟨n, 0, none⟩ u).setCell ⟨n, 1, none⟩ v).heap[n]? = some (.cells #[u, v] 23 (0, 0)) := by
  have h1 : (w.setCell ⟨n, 0, none⟩ u).heap[n]? = some (.cells #[u, y] 23 (0, 0)) := by
    have := heap_setCell_same w n 0 #[x, y] 23 u h
    simpa using this
  refine ⟨⟨by simp [World.cell?, h], by simp [World.frozen?, h]⟩, ⟨by simp [World.cell?, h1], by simp [World.frozen?, h1]⟩, fun v => ?_⟩
  have := heap_setCell_same (w.setCell ⟨n, 0, none⟩ u) n 1 #[u, y] 23 v h1
  simpa using this
theorem elem28 : Try.prog.underlying 28 = some (.slice (Try.prog.elem 28)) := by kernel_rfl
noncomputable def root : Frame := { (default : Frame) with fn := Try.prog.funcs.size, defers := [], mode := .panicking [goexitEntry] }
noncomputable def dclose (c : Nat) : Deferred := { target := .builtin .close #[121] 0 #[false], args := #[.chan (some c)] }
noncomputable def body91 : Code := match Try.f91.body with
  | some (.seq _ (.seq _ (.block _ (.loop b)))) => b
  | _ => .skip
/-- The rounds: one point each. -/
theorem kid91_loop {S : Nat → Prop} {c : Nat} {out : Pts} {part v : Value} (hlen : out.length ≤ 1000) : ∀ (m k : Nat), k + m = out.length → ∀ (O : Nat → Prop) (w : World) (x5 x11 x12 x13 x14 x15 x16 : Value), RowO O w v out →
    KT Try.prog S c ((out.drop k).map ptV) O (G ((baseD 91).at { tmps := #[part, .chan (some c), undef, undef, undef, x5, .chan (some c), part, v, .int .i64 out.length, .int .i64 k, x11, x12, x13, x14, x15, x16], defers := [dclose c] } [.code body91, .inLoop body91, .inBlock 0]) [root]) w := by
  intro m
  induction m with
  | zero =>
    intro k hk O w x5 x11 x12 x13 x14 x15 x16 hv
    have hk : k = out.length := by omega
    subst hk
    rw [List.drop_length]
    simp only [body91, Try.f91]
    refine .ctl rfl (fun _ => stepG_seq) ?_
    refine .ctl rfl (fun _ => stepG_region) ?_
    walk_nrm
    refine .val (.bool false) rfl rfl (by decide) (fun w2 _ => by go_simp) (fun w2 _ => by simp [go_sem]) ?_
    walk_nrm
    refine .ctl rfl (fun _ => stepG_region_end) ?_
    refine .ctl rfl (fun _ => stepG_seq) ?_
    refine .ctl rfl (fun _ => stepG_cond (t := false) rfl) ?_
    refine .ctl rfl (fun _ => stepG_exit (k' := []) rfl) ?_
    refine .ctl rfl (fun _ => stepG_end) ?_
    refine .shut (n := 2) (g1 := G { (baseD 91).at { tmps := #[part, .chan (some c), undef, undef, undef, x5, .chan (some c), part, v, .int .i64 out.length, .int .i64 out.length, .bool false, x12, x13, x14, x15, x16], defers := [] } [] with mode := .returning } [root]) rfl rfl (fun w2 cap s r tm _ hc => ?_) ?_
    · have hr := run_close_open (P := Try.prog) #[121] 0 hc
      have he := events_close_open (P := Try.prog) (es := #[]) #[121] 0 hc
      simp [G, stepG, unwind, callDeferred, Frame.at, dclose, invoke, builtin, hr, he, GStep.after]
      exact seen_eq (by simp [baseD, Try.func91, Try.f91]) (by simp)
    · refine .inr ⟨rfl, G root [], fun w => ?_, .inr ⟨rfl, { G root [] with status := .finished }, fun w => ?_, rfl⟩⟩
      · simp [G, stepG, unwind, doReturn, Frame.at, baseD, Try.func91, Try.f91, results, GStep.after, seen_none, root, goexitEntry]
      · have hc : root.catches Try.prog = false := rfl
        simp only [G, stepG, unwind]
        rw [show root.mode = .panicking [goexitEntry] from rfl, show root.defers = [] from rfl]
        simp [hc, goexitEntry]
  | succ m ih =>
    intro k hk O w x5 x11 x12 x13 x14 x15 x16 hv
    simp only [body91, Try.f91]
    refine .ctl rfl (fun _ => stepG_seq) ?_
    refine .ctl rfl (fun _ => stepG_region) ?_
    walk_nrm
    have hlt : k < out.length := by omega
    refine .val (.bool true) rfl rfl (by decide) (fun w2 _ => by go_simp) (fun w2 _ => by simp [go_sem]) ?_
    walk_nrm
    refine .ctl rfl (fun _ => stepG_region_end) ?_
    refine .ctl rfl (fun _ => stepG_seq) ?_
    refine .ctl rfl (fun _ => stepG_cond (t := true) rfl) ?_
    refine .ctl rfl (fun _ => stepG_skip) ?_
    refine .ctl rfl (fun _ => stepG_seq) ?_
    refine .ctl rfl (fun _ => stepG_block) ?_
    refine .ctl rfl (fun _ => stepG_seq) ?_
    refine .ctl rfl (fun _ => stepG_region) ?_
    walk_nrm
    obtain ⟨g, cap, rfl, hO, hP⟩ : ∃ g cap, v = .slice (some ⟨g, 0, none⟩) out.length cap ∧ O g ∧ PtsAt w g 0 out := by
      rcases hv with ⟨_, rfl⟩ | h
      · simp at hlt
      · exact h
    obtain ⟨p, hp⟩ : ∃ p, out[k] = p := ⟨_, rfl⟩
    have hP' := hP
    have hc := hP k hlt
    rw [hp, Nat.zero_add] at hc
    refine .val (.pointer (some ⟨g, k * 2, none⟩)) rfl rfl (by decide) (fun w2 _ => by go_simp) (fun w2 _ => by simp [go_sem, events_indexAt_slice 28 _ _ _ _ _ elem28 (show (0 : Int) ≤ k ∧ (k : Int) < out.length by omega)]) ?_
    walk_nrm
    refine .val (.agg #[.int .i64 p.1, .int .i64 p.2]) rfl rfl (by decide) (fun w2 k2 => ?_) (fun w2 k2 => ?_) ?_
    · have h1 := k2.cell (ad := ⟨g, k * 2, none⟩) (.inl hO)
      have h2 := k2.cell (ad := ⟨g, k * 2 + 1, none⟩) (.inl hO)
      rw [hc.1] at h1
      rw [hc.2] at h2
      go_simp
    · have h1 := k2.cell (ad := ⟨g, k * 2, none⟩) (.inl hO)
      have h2 := k2.cell (ad := ⟨g, k * 2 + 1, none⟩) (.inl hO)
      rw [hc.1] at h1
      rw [hc.2] at h2
      intro e he
      simp [go_sem, h1, h2] at he
      rcases he with rfl | rfl
      · exact .inl ⟨_, rfl, .inl hO⟩
      · exact .inl ⟨_, rfl, .inl hO⟩
    walk_nrm
    refine .go1 rfl fun w2 k2 => ⟨_, w2.alloc (.cells #[.int .i64 0, .int .i64 0] 23), _, stepG_value (v := .pointer (some ⟨w2.heap.size, 0, none⟩)) rfl rfl (by decide) (by go_simp), ?_, fun e he => ?_, ?_⟩
    · exact did_alloc _
    · have := mem_listed he
      simp [go_sem] at this
    walk_nrm
    have hrow2 := RowO.keeps (.inr ⟨g, cap, rfl, hO, hP⟩) k2
    obtain ⟨n, hn⟩ : ∃ n, w2.heap.size = n := ⟨_, rfl⟩
    have hgn : g < n := by
      rw [← hn]
      rcases hrow2 with ⟨e, _⟩ | ⟨g', cap', e, h1, h2⟩
      · cases e
      · injection e with e _
        injection e with e
        injection e with e _
        subst e
        have := (h2 k hlt).1
        rcases Nat.lt_or_ge g w2.heap.size with h | h
        · exact h
        · simp [World.cell?, Array.getElem?_eq_none h] at this
    have hO1 : own O w2 (w2.alloc (.cells #[.int .i64 0, .int .i64 0] 23)) n := .inr ⟨by omega, by rw [alloc_heap, Array.size_push]; omega⟩
    have hO2 : own O w2 (w2.alloc (.cells #[.int .i64 0, .int .i64 0] 23)) g := .inl hO
    have hcell : (w2.alloc (.cells #[.int .i64 0, .int .i64 0] 23)).heap[n]? = some (.cells #[.int .i64 0, .int .i64 0] 23 (0, 0)) := by
      rw [alloc_heap, ← hn]
      exact Array.getElem?_push_size
    have hrow : RowO (own O w2 (w2.alloc (.cells #[.int .i64 0, .int .i64 0] 23))) (w2.alloc (.cells #[.int .i64 0, .int .i64 0] 23)) (.slice (some ⟨g, 0, none⟩) out.length cap) out := by
      rcases hrow2 with ⟨e, _⟩ | ⟨g', cap', e, h1, h2⟩
      · cases e
      · refine .inr ⟨g', cap', e, .inl h1, fun i hi => ?_⟩
        have hb : g' < w2.heap.size := by
          have := (h2 i hi).1
          rcases Nat.lt_or_ge g' w2.heap.size with h | h
          · exact h
          · simp [World.cell?, Array.getElem?_eq_none h] at this
        have := h2 i hi
        unfold World.cell? at this ⊢
        rw [alloc_ne _ hb]
        exact this
    rw [hn]
    clear hrow2 hP hP' hc hv
    generalize own O w2 (w2.alloc (.cells #[.int .i64 0, .int .i64 0] 23)) = O1 at hO1 hO2 hrow ⊢
    generalize w2.alloc (.cells #[.int .i64 0, .int .i64 0] 23) = w3 at hcell hrow ⊢
    refine .go1 rfl fun w4 k4 => ⟨_, (w4.setCell ⟨n, 0, none⟩ (.int .i64 p.1)).setCell ⟨n, 1, none⟩ (.int .i64 p.2), _, stepG_none rfl rfl (by decide) ?_, ?_, fun e he => ?_, ?_⟩
    · have h4 := k4.block n (.inl hO1)
      rw [hcell] at h4
      obtain ⟨⟨q1, q2⟩, ⟨q3, q4⟩, _⟩ := two_cells (u := .int .i64 p.1) h4
      go_simp
    · exact (did_setc _ _ hO1).trans (did_setc _ _ hO1)
    · have h4 := k4.block n (.inl hO1)
      rw [hcell] at h4
      obtain ⟨⟨q1, q2⟩, ⟨q3, q4⟩, _⟩ := two_cells (u := .int .i64 p.1) h4
      have := mem_listed he
      simp [go_sem, storedEv, q1, q2, q3, q4] at this
      rw [own_same (by rw [set_size, set_size])]
      rcases this with rfl | rfl
      · exact .inl ⟨_, rfl, .inl hO1⟩
      · exact .inl ⟨_, rfl, .inl hO1⟩
    rw [own_same (by rw [set_size, set_size])]
    have h4 := k4.block n (.inl hO1)
    rw [hcell] at h4
    have hcell5 := (two_cells (u := .int .i64 p.1) h4).2.2 (.int .i64 p.2)
    have hrow5 : RowO O1 ((w4.setCell ⟨n, 0, none⟩ (.int .i64 p.1)).setCell ⟨n, 1, none⟩ (.int .i64 p.2)) (.slice (some ⟨g, 0, none⟩) out.length cap) out := by
      refine (hrow.keeps k4).imp id fun ⟨g', cap', e, h1, h2⟩ => ⟨g', cap', e, h1, fun i hi => ?_⟩
      have e' : g' = g := by
        injection e with e _
        injection e with e
        injection e with e _
        exact e.symm
      have := h2 i hi
      unfold World.cell? at this ⊢
      rw [Below.heap_setCell _ _ _ _ (show g' ≠ n by omega), Below.heap_setCell _ _ _ _ (show g' ≠ n by omega)]
      exact this
    generalize (w4.setCell ⟨n, 0, none⟩ (.int .i64 p.1)).setCell ⟨n, 1, none⟩ (.int .i64 p.2) = w5 at hcell5 hrow5 ⊢
    walk_nrm
    refine .ctl rfl (fun _ => stepG_region_end) ?_
    refine .ctl rfl (fun _ => stepG_region) ?_
    walk_nrm
    refine .mov (.chan (some c)) rfl rfl (.inl rfl) rfl (by decide) ?_
    walk_nrm
    refine .val (.agg #[.int .i64 p.1, .int .i64 p.2]) rfl rfl (by decide) (fun w2 k2 => ?_) (fun w2 k2 => ?_) ?_
    · have h6 := k2.block n (.inl hO1)
      rw [hcell5] at h6
      have h1 : w2.cell? ⟨n, 0, none⟩ = some (.int .i64 p.1) := by simp [World.cell?, h6]
      have h2 : w2.cell? ⟨n, 1, none⟩ = some (.int .i64 p.2) := by simp [World.cell?, h6]
      go_simp
    · have h6 := k2.block n (.inl hO1)
      rw [hcell5] at h6
      have h1 : w2.cell? ⟨n, 0, none⟩ = some (.int .i64 p.1) := by simp [World.cell?, h6]
      have h2 : w2.cell? ⟨n, 1, none⟩ = some (.int .i64 p.2) := by simp [World.cell?, h6]
      intro e he
      simp [go_sem, h1, h2] at he
      rcases he with rfl | rfl
      · exact .inl ⟨_, rfl, .inl hO1⟩
      · exact .inl ⟨_, rfl, .inl hO1⟩
    walk_nrm
    have hdrop : (out.drop k).map ptV = .agg #[.int .i64 p.1, .int .i64 p.2] :: (out.drop (k + 1)).map ptV := by
      rw [List.drop_eq_getElem_cons hlt, hp]
      rfl
    rw [hdrop]
    refine .send (z := .tuple #[]) rfl (fun w2 k2 => ?_) ?_
    · rw [stepG_comm (cases := #[scase c (.agg #[.int .i64 p.1, .int .i64 p.2]) (.tuple #[])]) (blocking := true) (shape := .send) (w' := w2) rfl rfl (by decide) (by simp [execOp, scase, Act.eval])]
      simp [listed, execOp, seen_none]
    unfold Conc.served
    simp only [G]
    rw [Frame.finish_at]
    walk_nrm
    refine .ctl rfl (fun _ => stepG_region_end) ?_
    refine .ctl rfl (fun _ => stepG_inBlock) ?_
    refine .ctl rfl (fun _ => stepG_region) ?_
    walk_nrm
    refine .val (.int .i64 ((k + 1 : Nat) : Int)) rfl rfl (by decide) (fun w2 _ => by go_simp; rw [IntKind.wrap_i64]; omega) (fun w2 _ => by simp [go_sem]) ?_
    walk_nrm
    refine .mov (.int .i64 ((k + 1 : Nat) : Int)) rfl rfl (.inl rfl) rfl (by decide) ?_
    walk_nrm
    refine .ctl rfl (fun _ => stepG_region_end) ?_
    refine .ctl rfl (fun _ => stepG_inLoop) ?_
    exact ih (k + 1) (by omega) O1 w5 _ _ _ _ _ _ _ hrow5
theorem kid91 {S : Nat → Prop} {c : Nat} {out : Pts} {w : World} {part : Value} {FinR : (Nat → Prop) → Frame → World → Prop} (hlen : out.length ≤ 1000)
    (hrun : ∀ base w2, Keeps (fun _ => False) S w w2 → Runs Try.prog S base FinR (fun _ => False) (Frame.enter Try.prog 70 #[part] .normal) base w2)
    (hfin : ∀ O fr w, fr.mode = .returning → (∀ w2, Keeps O S w w2 → FinR O fr w2) → ∃ v', RowO O w v' out ∧ ∀ w2 c rest, stepG Try.prog false (G fr (c :: rest)) w2 = .go (G (c.finish v') rest) w2 #[]) :
    KT Try.prog S c (out.map ptV) (fun _ => False) (born Try.prog (dcall 91 #[part, .chan (some c)])) w := by
  refine .ctl (g1 := G ((baseD 91).at { tmps := #[part, .chan (some c)] ++ Array.replicate (Try.f91.ntmps - 2) undef, defers := [] } [.code (Try.f91.body.getD .skip)]) [root]) rfl (fun w => ?_) ?_
  · simp [born, stepG, unwind, callDeferred, dcall, invoke, callFunc, Try.func91, Try.f91, GStep.after, seen_none, G, Frame.enter, Frame.at, baseD, root]
  walk_nrmf Try.f91
  refine .ctl rfl (fun _ => stepG_seq) ?_
  refine .ctl rfl (fun _ => stepG_region) ?_
  walk_nrm
  refine .mov (.chan (some c)) rfl rfl (.inl rfl) rfl (by decide) ?_
  walk_nrm
  refine .ctl rfl (fun w => stepG_dfr (d := dclose c) rfl rfl (by decide) (by simp [execOp, resolve, dclose, Act.eval]) (by simp [execOp, resolve])) ?_
  walk_nrm
  refine .ctl rfl (fun _ => stepG_region_end) ?_
  refine .ctl rfl (fun _ => stepG_seq) ?_
  refine .ctl rfl (fun _ => stepG_region) ?_
  walk_nrm
  refine .mov part rfl rfl (.inl rfl) rfl (by decide) ?_
  walk_nrm
  refine .look rfl (fun w2 k2 => ⟨_, stepG_enter (f := 70) (args := #[part]) (w' := w2) rfl rfl (by decide) (by go_simp), fun e he => ?_⟩) ?_
  · have := mem_listed he
    simp [go_sem, callFunc, Try.func70, Try.f70] at this
  refine .of_runs (hrun _ w (Keeps.refl _ _ _)) fun O fr w hm hf => ?_
  obtain ⟨v, hv, hst⟩ := hfin O fr w hm hf
  refine .ctl rfl (fun w2 => hst w2 _ _) ?_
  rw [Frame.finish_at]
  walk_nrm
  refine .val (.int .i64 out.length) rfl rfl (by decide) (fun w2 _ => ?_) (fun w2 _ => ?_) ?_
  · rcases hv with ⟨rfl, rfl⟩ | ⟨g, cap, rfl, _⟩ <;> go_simp
  · rcases hv with ⟨rfl, rfl⟩ | ⟨g, cap, rfl, _⟩ <;> simp [go_sem]
  walk_nrm
  refine .mov (.int .i64 0) rfl rfl (.inl rfl) rfl (by decide) ?_
  walk_nrm
  refine .ctl rfl (fun _ => stepG_region_end) ?_
  refine .ctl rfl (fun _ => stepG_block) ?_
  refine .ctl rfl (fun _ => stepG_loop) ?_
  exact kid91_loop hlen out.length 0 (by omega) O w undef undef undef undef undef undef undef hv
end Go.Proofs.Ytgeoffpcmkofkaa
