/- Lf; Lg; Lh; Li: texts laid into one. -/
import Derived.Test.YtgeoffpcmkofkaaQam
import Derived.Test.YtgeoffpcmkofkaaQae
import Derived.Conc.DeferLaws
import Derived.Conc.Own2
import Derived.Conc.WalkWords
import Derived.Maps.AppendAt
import Derived.Conc.AppendWalk
import Derived.Conc.SmallLaws
/- One that works a part's corners out and sends them. -/
namespace Go.Proofs.Ytgeoffpcmkofkaa
open Go Go.Conc Go.RowKit
set_option maxRecDepth 100000

/-- A row of points among one's own. -/
def RowO (O : Nat → Prop) (w : World) (v : Value) (out : Pts) : Prop := (v = .slice none 0 0 ∧ out = []) ∨ ∃ g cap, v = .slice (some ⟨g, 0, none⟩) out.length cap ∧ O g ∧ PtsAt w g 0 out
/-- A point as a value. -/
def ptV (p : Int × Int) : Value := .agg #[.int .i64 p.1, .int .i64 p.2]
section
variable {P : Program} {S : Nat → Prop} {c : Nat} {outs : List Value} {O O' : Nat → Prop} {w w' w1 w2 : World} {b : Frame} {a : Act} {ops : Array Oper} {i : Nat} {rest : List Nat} {o : Oper} {k : List Item} {cs : List Frame}
theorem RowO.keeps {v : Value} {out : Pts} (h : RowO O w v out) (k : Keeps O S w w2) : RowO O w2 v out := by
  refine h.imp id fun ⟨g, cap, h1, h2, h3⟩ => ⟨g, cap, h1, h2, fun i hi => ?_⟩
  rw [k.cell (.inl h2), k.cell (.inl h2)]
  exact h3 i hi
theorem KT.val (v : Value) (ho : ops[i]? = some o) (hw : Region.wanted o (yielded ops a.tmps) = true) (hk : b.kind ≠ .early) (hr : ∀ w2, Keeps O S w w2 → (execOp a.eval o).run P w2 = .ok (.value v) w2) (he : ∀ w2, Keeps O S w w2 → ∀ e ∈ (execOp a.eval o).events P w2 #[], EvW O S e)
    (h : KT P S c outs O (G (b.at (a.put o.dst v) (.inRegion ops rest :: k)) cs) w) : KT P S c outs O (G (b.at a (.inRegion ops (i :: rest) :: k)) cs) w :=
  .look rfl (fun w2 k2 => ⟨_, stepG_value ho hw hk (hr w2 k2), fun e hh => he w2 k2 e (mem_listed hh)⟩) h
theorem KT.mov {x : Operand} (v : Value) (ho : ops[i]? = some o) (hw : Region.wanted o (yielded ops a.tmps) = true) (hop : o.op = .move x ∨ o.op = .assign x) (hv : a.eval x = v) (hk : b.kind ≠ .early)
    (h : KT P S c outs O (G (b.at (a.put o.dst v) (.inRegion ops rest :: k)) cs) w) : KT P S c outs O (G (b.at a (.inRegion ops (i :: rest) :: k)) cs) w := by
  refine .val v ho hw hk (fun w2 _ => ?_) (fun w2 _ => ?_) h
  · rcases hop with e | e <;> (unfold execOp; simp [e, hv])
  · rcases hop with e | e <;> (unfold execOp; simp [e])
theorem stepG_dfr {main : Bool} {d : Deferred} (ho : ops[i]? = some o) (hw : Region.wanted o (yielded ops a.tmps) = true) (hk : b.kind ≠ .early) (hr : (execOp a.eval o).run P w = .ok (.defer d) w) (he : (execOp a.eval o).events P w #[] = #[]) :
    stepG P main (G (b.at a (.inRegion ops (i :: rest) :: k)) cs) w = .go (G (b.at (Act.put ⟨a.tmps, d :: a.defers⟩ o.dst undef) (.inRegion ops rest :: k)) cs) w #[] := by
  have hfin : (b.at ⟨a.tmps, d :: a.defers⟩ (.inRegion ops (i :: rest) :: k)).finish undef = b.at (Act.put ⟨a.tmps, d :: a.defers⟩ o.dst undef) (.inRegion ops rest :: k) := by rw [Frame.finish_at, ho]; rfl
  have hk' : (b.kind == CallKind.early) = false := by simpa using hk
  rw [stepG_oper ho hw, ← hfin]
  simp [stepG.apply, hr, he, G, Frame.at, hk', GStep.after, seen_none]
end
theorem alloc_heap (w : World) (o : Obj) : (w.alloc o).heap = w.heap.push o := rfl
theorem alloc_ne {w : World} (o : Obj) {r : Nat} (hr : r < w.heap.size) : (w.alloc o).heap[r]? = w.heap[r]? := by
  rw [alloc_heap, Array.getElem?_push_lt hr, Array.getElem?_eq_getElem hr]
theorem did_alloc {O : Nat → Prop} {w : World} (o : Obj) : DidO O w (w.alloc o) :=
  ⟨rfl, rfl, rfl, by rw [alloc_heap, Array.size_push]; omega, fun r hr _ => alloc_ne o hr⟩
theorem set_size (w : World) (a : Addr) (v : Value) : (w.setCell a v).heap.size = w.heap.size := by
  unfold World.setCell
  simp
theorem did_setc {O : Nat → Prop} {w : World} (a : Addr) (v : Value) (h : O a.block) : DidO O w (w.setCell a v) :=
  ⟨rfl, rfl, rfl, by rw [set_size]; exact Nat.le_refl _, fun r _ hn => Below.heap_setCell w a v r fun e => hn (e ▸ h)⟩
theorem DidO.trans {O : Nat → Prop} {w w1 w2 : World} (h : DidO O w w1) (k : DidO O w1 w2) : DidO O w w2 := ⟨k.os.trans h.os, k.tape.trans h.tape, k.output.trans h.output, Nat.le_trans h.size k.size, fun r hr hn => (k.kept r (Nat.lt_of_lt_of_le hr h.size) hn).trans (h.kept r hr hn)⟩
/-- Two cells, written one behind the other. -/
theorem two_cells {w : World} {n : Nat} {x y u : Value} (h : w.heap[n]? = some (.cells #[x, y] 23 (0, 0))) :
    (w.cell? ⟨n, 0, none⟩ = some x ∧ w.frozen? ⟨n, 0, none⟩ = false) ∧ ((w.setCell ⟨n, 0, none⟩ u).cell? ⟨n, 1, none⟩ = some y ∧ (w.setCell ⟨n, 0, none⟩ u).frozen? ⟨n, 1, none⟩ = false) ∧ ∀ v, ((w.setCell ⟨n, 0, none⟩ u).setCell ⟨n, 1, none⟩ v).heap[n]? = some (.cells #[u, v] 23 (0, 0)) := by
  have h1 : (w.setCell ⟨n, 0, none⟩ u).heap[n]? = some (.cells #[u, y] 23 (0, 0)) := by
    have := heap_setCell_same w n 0 #[x, y] 23 u h
    simpa using this
  refine ⟨⟨by simp [World.cell?, h], by simp [World.frozen?, h]⟩, ⟨by simp [World.cell?, h1], by simp [World.frozen?, h1]⟩, fun v => ?_⟩
  have := heap_setCell_same (w.setCell ⟨n, 0, none⟩ u) n 1 #[u, y] 23 v h1
  simpa using this
theorem elem28 : Try.prog.underlying 28 = some (.slice (Try.prog.elem 28)) := by kernel_rfl
noncomputable def root : Frame := { (default : Frame) with fn := Try.prog.funcs.size, defers := [], mode := .panicking [goexitEntry] }
noncomputable def dclose (c : Nat) : Deferred := { target := .builtin .close #[121] 0 #[false], args := #[.chan (some c)] }
noncomputable def body91 : Code := match Try.f91.body with
  | some (.seq _ (.seq _ (.block _ (.loop b)))) => b
  | _ => .skip
/-- The rounds: one point each. -/
theorem kid91_loop {S : Nat → Prop} {c : Nat} {out : Pts} {part v : Value} (hlen : out.length ≤ 1000) : ∀ (m k : Nat), k + m = out.length → ∀ (O : Nat → Prop) (w : World) (x5 x11 x12 x13 x14 x15 x16 : Value), RowO O w v out →
    KT Try.prog S c ((out.drop k).map ptV) O (G ((baseD 91).at { tmps := #[part, .chan (some c), undef, undef, undef, x5, .chan (some c), part, v, .int .i64 out.length, .int .i64 k, x11, x12, x13, x14, x15, x16], defers := [dclose c] } [.code body91, .inLoop body91, .inBlock 0]) [root]) w := by
  intro m
  induction m with
  | zero =>
    intro k hk O w x5 x11 x12 x13 x14 x15 x16 hv
    have hk : k = out.length := by omega
    subst hk
    rw [List.drop_length]
    simp only [body91, Try.f91]
    refine .ctl rfl (fun _ => stepG_seq) ?_
    refine .ctl rfl (fun _ => stepG_region) ?_
    walk_nrm
    refine .val (.bool false) rfl rfl (by decide) (fun w2 _ => by go_simp) (fun w2 _ => by simp [go_sem]) ?_
    walk_nrm
    refine .ctl rfl (fun _ => stepG_region_end) ?_
    refine .ctl rfl (fun _ => stepG_seq) ?_
    refine .ctl rfl (fun _ => stepG_cond (t := false) rfl) ?_
    refine .ctl rfl (fun _ => stepG_exit (k' := []) rfl) ?_
    refine .ctl rfl (fun _ => stepG_end) ?_
    refine .shut (n := 2) (g1 := G { (baseD 91).at { tmps := #[part, .chan (some c), undef, undef, undef, x5, .chan (some c), part, v, .int .i64 out.length, .int .i64 out.length, .bool false, x12, x13, x14, x15, x16], defers := [] } [] with mode := .returning } [root]) rfl rfl (fun w2 cap s r tm _ hc => ?_) ?_
    · have hr := run_close_open (P := Try.prog) #[121] 0 hc
      have he := events_close_open (P := Try.prog) (es := #[]) #[121] 0 hc
      simp [G, stepG, unwind, callDeferred, Frame.at, dclose, invoke, builtin, hr, he, GStep.after]
      exact seen_eq (by simp [baseD, Try.func91, Try.f91]) (by simp)
    · refine .inr ⟨rfl, G root [], fun w => ?_, .inr ⟨rfl, { G root [] with status := .finished }, fun w => ?_, rfl⟩⟩
      · simp [G, stepG, unwind, doReturn, Frame.at, baseD, Try.func91, Try.f91, results, GStep.after, seen_none, root, goexitEntry]
      · have hc : root.catches Try.prog = false := rfl
        simp only [G, stepG, unwind]
        rw [show root.mode = .panicking [goexitEntry] from rfl, show root.defers = [] from rfl]
        simp [hc, goexitEntry]
  | succ m ih =>
    intro k hk O w x5 x11 x12 x13 x14 x15 x16 hv
    simp only [body91, Try.f91]
    refine .ctl rfl (fun _ => stepG_seq) ?_
    refine .ctl rfl (fun _ => stepG_region) ?_
    walk_nrm
    have hlt : k < out.length := by omega
    refine .val (.bool true) rfl rfl (by decide) (fun w2 _ => by go_simp) (fun w2 _ => by simp [go_sem]) ?_
    walk_nrm
    refine .ctl rfl (fun _ => stepG_region_end) ?_
    refine .ctl rfl (fun _ => stepG_seq) ?_
    refine .ctl rfl (fun _ => stepG_cond (t := true) rfl) ?_
    refine .ctl rfl (fun _ => stepG_skip) ?_
    refine .ctl rfl (fun _ => stepG_seq) ?_
    refine .ctl rfl (fun _ => stepG_block) ?_
    refine .ctl rfl (fun _ => stepG_seq) ?_
    refine .ctl rfl (fun _ => stepG_region) ?_
    walk_nrm
    obtain ⟨g, cap, rfl, hO, hP⟩ : ∃ g cap, v = .slice (some ⟨g, 0, none⟩) out.length cap ∧ O g ∧ PtsAt w g 0 out := by
      rcases hv with ⟨_, rfl⟩ | h
      · simp at hlt
      · exact h
    obtain ⟨p, hp⟩ : ∃ p, out[k] = p := ⟨_, rfl⟩
    have hP' := hP
    have hc := hP k hlt
    rw [hp, Nat.zero_add] at hc
    refine .val (.pointer (some ⟨g, k * 2, none⟩)) rfl rfl (by decide) (fun w2 _ => by go_simp) (fun w2 _ => by simp [go_sem, events_indexAt_slice 28 _ _ _ _ _ elem28 (show (0 : Int) ≤ k ∧ (k : Int) < out.length by omega)]) ?_
    walk_nrm
    refine .val (.agg #[.int .i64 p.1, .int .i64 p.2]) rfl rfl (by decide) (fun w2 k2 => ?_) (fun w2 k2 => ?_) ?_
    · have h1 := k2.cell (ad := ⟨g, k * 2, none⟩) (.inl hO)
      have h2 := k2.cell (ad := ⟨g, k * 2 + 1, none⟩) (.inl hO)
      rw [hc.1] at h1
      rw [hc.2] at h2
      go_simp
    · have h1 := k2.cell (ad := ⟨g, k * 2, none⟩) (.inl hO)
      have h2 := k2.cell (ad := ⟨g, k * 2 + 1, none⟩) (.inl hO)
      rw [hc.1] at h1
      rw [hc.2] at h2
      intro e he
      simp [go_sem, h1, h2] at he
      rcases he with rfl | rfl
      · exact .inl ⟨_, rfl, .inl hO⟩
      · exact .inl ⟨_, rfl, .inl hO⟩
    walk_nrm
    refine .go1 rfl fun w2 k2 => ⟨_, w2.alloc (.cells #[.int .i64 0, .int .i64 0] 23), _, stepG_value (v := .pointer (some ⟨w2.heap.size, 0, none⟩)) rfl rfl (by decide) (by go_simp), ?_, fun e he => ?_, ?_⟩
    · exact did_alloc _
    · have := mem_listed he
      simp [go_sem] at this
    walk_nrm
    have hrow2 := RowO.keeps (.inr ⟨g, cap, rfl, hO, hP⟩) k2
    obtain ⟨n, hn⟩ : ∃ n, w2.heap.size = n := ⟨_, rfl⟩
    have hgn : g < n := by
      rw [← hn]
      rcases hrow2 with ⟨e, _⟩ | ⟨g', cap', e, h1, h2⟩
      · cases e
      · injection e with e _
        injection e with e
        injection e with e _
        subst e
        have := (h2 k hlt).1
        rcases Nat.lt_or_ge g w2.heap.size with h | h
        · exact h
        · simp [World.cell?, Array.getElem?_eq_none h] at this
    have hO1 : own O w2 (w2.alloc (.cells #[.int .i64 0, .int .i64 0] 23)) n := .inr ⟨by omega, by rw [alloc_heap, Array.size_push]; omega⟩
    have hO2 : own O w2 (w2.alloc (.cells #[.int .i64 0, .int .i64 0] 23)) g := .inl hO
    have hcell : (w2.alloc (.cells #[.int .i64 0, .int .i64 0] 23)).heap[n]? = some (.cells #[.int .i64 0, .int .i64 0] 23 (0, 0)) := by
      rw [alloc_heap, ← hn]
      exact Array.getElem?_push_size
    have hrow : RowO (own O w2 (w2.alloc (.cells #[.int .i64 0, .int .i64 0] 23))) (w2.alloc (.cells #[.int .i64 0, .int .i64 0] 23)) (.slice (some ⟨g, 0, none⟩) out.length cap) out := by
      rcases hrow2 with ⟨e, _⟩ | ⟨g', cap', e, h1, h2⟩
      · cases e
      · refine .inr ⟨g', cap', e, .inl h1, fun i hi => ?_⟩
        have hb : g' < w2.heap.size := by
          have := (h2 i hi).1
          rcases Nat.lt_or_ge g' w2.heap.size with h | h
          · exact h
          · simp [World.cell?, Array.getElem?_eq_none h] at this
        have := h2 i hi
        unfold World.cell? at this ⊢
        rw [alloc_ne _ hb]
        exact this
    rw [hn]
    clear hrow2 hP hP' hc hv
    generalize own O w2 (w2.alloc (.cells #[.int .i64 0, .int .i64 0] 23)) = O1 at hO1 hO2 hrow ⊢
    generalize w2.alloc (.cells #[.int .i64 0, .int .i64 0] 23) = w3 at hcell hrow ⊢
    refine .go1 rfl fun w4 k4 => ⟨_, (w4.setCell ⟨n, 0, none⟩ (.int .i64 p.1)).setCell ⟨n, 1, none⟩ (.int .i64 p.2), _, stepG_none rfl rfl (by decide) ?_, ?_, fun e he => ?_, ?_⟩
    · have h4 := k4.block n (.inl hO1)
      rw [hcell] at h4
      obtain ⟨⟨q1, q2⟩, ⟨q3, q4⟩, _⟩ := two_cells (u := .int .i64 p.1) h4
      go_simp
    · exact (did_setc _ _ hO1).trans (did_setc _ _ hO1)
    · have h4 := k4.block n (.inl hO1)
      rw [hcell] at h4
      obtain ⟨⟨q1, q2⟩, ⟨q3, q4⟩, _⟩ := two_cells (u := .int .i64 p.1) h4
      have := mem_listed he
      simp [go_sem, storedEv, q1, q2, q3, q4] at this
      rw [own_same (by rw [set_size, set_size])]
      rcases this with rfl | rfl
      · exact .inl ⟨_, rfl, .inl hO1⟩
      · exact .inl ⟨_, rfl, .inl hO1⟩
    rw [own_same (by rw [set_size, set_size])]
    have h4 := k4.block n (.inl hO1)
    rw [hcell] at h4
    have hcell5 := (two_cells (u := .int .i64 p.1) h4).2.2 (.int .i64 p.2)
    have hrow5 : RowO O1 ((w4.setCell ⟨n, 0, none⟩ (.int .i64 p.1)).setCell ⟨n, 1, none⟩ (.int .i64 p.2)) (.slice (some ⟨g, 0, none⟩) out.length cap) out := by
      refine (hrow.keeps k4).imp id fun ⟨g', cap', e, h1, h2⟩ => ⟨g', cap', e, h1, fun i hi => ?_⟩
      have e' : g' = g := by
        injection e with e _
        injection e with e
        injection e with e _
        exact e.symm
      have := h2 i hi
      unfold World.cell? at this ⊢
      rw [Below.heap_setCell _ _ _ _ (show g' ≠ n by omega), Below.heap_setCell _ _ _ _ (show g' ≠ n by omega)]
      exact this
    generalize (w4.setCell ⟨n, 0, none⟩ (.int .i64 p.1)).setCell ⟨n, 1, none⟩ (.int .i64 p.2) = w5 at hcell5 hrow5 ⊢
    walk_nrm
    refine .ctl rfl (fun _ => stepG_region_end) ?_
    refine .ctl rfl (fun _ => stepG_region) ?_
    walk_nrm
    refine .mov (.chan (some c)) rfl rfl (.inl rfl) rfl (by decide) ?_
    walk_nrm
    refine .val (.agg #[.int .i64 p.1, .int .i64 p.2]) rfl rfl (by decide) (fun w2 k2 => ?_) (fun w2 k2 => ?_) ?_
    · have h6 := k2.block n (.inl hO1)
      rw [hcell5] at h6
      have h1 : w2.cell? ⟨n, 0, none⟩ = some (.int .i64 p.1) := by simp [World.cell?, h6]
      have h2 : w2.cell? ⟨n, 1, none⟩ = some (.int .i64 p.2) := by simp [World.cell?, h6]
      go_simp
    · have h6 := k2.block n (.inl hO1)
      rw [hcell5] at h6
      have h1 : w2.cell? ⟨n, 0, none⟩ = some (.int .i64 p.1) := by simp [World.cell?, h6]
      have h2 : w2.cell? ⟨n, 1, none⟩ = some (.int .i64 p.2) := by simp [World.cell?, h6]
      intro e he
      simp [go_sem, h1, h2] at he
      rcases he with rfl | rfl
      · exact .inl ⟨_, rfl, .inl hO1⟩
      · exact .inl ⟨_, rfl, .inl hO1⟩
    walk_nrm
    have hdrop : (out.drop k).map ptV = .agg #[.int .i64 p.1, .int .i64 p.2] :: (out.drop (k + 1)).map ptV := by
      rw [List.drop_eq_getElem_cons hlt, hp]
      rfl
    rw [hdrop]
    refine .send (z := .tuple #[]) rfl (fun w2 k2 => ?_) ?_
    · rw [stepG_comm (cases := #[scase c (.agg #[.int .i64 p.1, .int .i64 p.2]) (.tuple #[])]) (blocking := true) (shape := .send) (w' := w2) rfl rfl (by decide) (by simp [execOp, scase, Act.eval])]
      simp [listed, execOp, seen_none]
    unfold Conc.served
    simp only [G]
    rw [Frame.finish_at]
    walk_nrm
    refine .ctl rfl (fun _ => stepG_region_end) ?_
    refine .ctl rfl (fun _ => stepG_inBlock) ?_
    refine .ctl rfl (fun _ => stepG_region) ?_
    walk_nrm
    refine .val (.int .i64 ((k + 1 : Nat) : Int)) rfl rfl (by decide) (fun w2 _ => by go_simp; rw [IntKind.wrap_i64]; omega) (fun w2 _ => by simp [go_sem]) ?_
    walk_nrm
    refine .mov (.int .i64 ((k + 1 : Nat) : Int)) rfl rfl (.inl rfl) rfl (by decide) ?_
    walk_nrm
    refine .ctl rfl (fun _ => stepG_region_end) ?_
    refine .ctl rfl (fun _ => stepG_inLoop) ?_
    exact ih (k + 1) (by omega) O1 w5 _ _ _ _ _ _ _ hrow5
theorem kid91 {S : Nat → Prop} {c : Nat} {out : Pts} {w : World} {part : Value} {FinR : (Nat → Prop) → Frame → World → Prop} (hlen : out.length ≤ 1000)
    (hrun : ∀ base w2, Keeps (fun _ => False) S w w2 → Runs Try.prog S base FinR (fun _ => False) (Frame.enter Try.prog 70 #[part] .normal) base w2)
    (hfin : ∀ O fr w, fr.mode = .returning → (∀ w2, Keeps O S w w2 → FinR O fr w2) → ∃ v', RowO O w v' out ∧ ∀ w2 c rest, stepG Try.prog false (G fr (c :: rest)) w2 = .go (G (c.finish v') rest) w2 #[]) :
    KT Try.prog S c (out.map ptV) (fun _ => False) (born Try.prog (dcall 91 #[part, .chan (some c)])) w := by
  refine .ctl (g1 := G ((baseD 91).at { tmps := #[part, .chan (some c)] ++ Array.replicate (Try.f91.ntmps - 2) undef, defers := [] } [.code (Try.f91.body.getD .skip)]) [root]) rfl (fun w => ?_) ?_
  · simp [born, stepG, unwind, callDeferred, dcall, invoke, callFunc, Try.func91, Try.f91, GStep.after, seen_none, G, Frame.enter, Frame.at, baseD, root]
  walk_nrmf Try.f91
  refine .ctl rfl (fun _ => stepG_seq) ?_
  refine .ctl rfl (fun _ => stepG_region) ?_
  walk_nrm
  refine .mov (.chan (some c)) rfl rfl (.inl rfl) rfl (by decide) ?_
  walk_nrm
  refine .ctl rfl (fun w => stepG_dfr (d := dclose c) rfl rfl (by decide) (by simp [execOp, resolve, dclose, Act.eval]) (by simp [execOp, resolve])) ?_
  walk_nrm
  refine .ctl rfl (fun _ => stepG_region_end) ?_
  refine .ctl rfl (fun _ => stepG_seq) ?_
  refine .ctl rfl (fun _ => stepG_region) ?_
  walk_nrm
  refine .mov part rfl rfl (.inl rfl) rfl (by decide) ?_
  walk_nrm
  refine .look rfl (fun w2 k2 => ⟨_, stepG_enter (f := 70) (args := #[part]) (w' := w2) rfl rfl (by decide) (by go_simp), fun e he => ?_⟩) ?_
  · have := mem_listed he
    simp [go_sem, callFunc, Try.func70, Try.f70] at this
  refine .of_runs (hrun _ w (Keeps.refl _ _ _)) fun O fr w hm hf => ?_
  obtain ⟨v, hv, hst⟩ := hfin O fr w hm hf
  refine .ctl rfl (fun w2 => hst w2 _ _) ?_
  rw [Frame.finish_at]
  walk_nrm
  refine .val (.int .i64 out.length) rfl rfl (by decide) (fun w2 _ => ?_) (fun w2 _ => ?_) ?_
  · rcases hv with ⟨rfl, rfl⟩ | ⟨g, cap, rfl, _⟩ <;> go_simp
  · rcases hv with ⟨rfl, rfl⟩ | ⟨g, cap, rfl, _⟩ <;> simp [go_sem]
  walk_nrm
  refine .mov (.int .i64 0) rfl rfl (.inl rfl) rfl (by decide) ?_
  walk_nrm
  refine .ctl rfl (fun _ => stepG_region_end) ?_
  refine .ctl rfl (fun _ => stepG_block) ?_
  refine .ctl rfl (fun _ => stepG_loop) ?_
  exact kid91_loop hlen out.length 0 (by omega) O w undef undef undef undef undef undef undef hv
end Go.Proofs.Ytgeoffpcmkofkaa
/- The one that starts them: steps of its own. -/
namespace Go.Proofs.Ytgeoffpcmkofkaa
open Go Go.Conc Go.RowKit
set_option maxRecDepth 100000

theorem add_blk (a : Addr) (n : Nat) : (a.add n).block = a.block := by unfold Addr.add; split <;> rfl
section
variable {P : Program} {S : Nat → Prop} {O : Nat → Prop} {w : World} {b : Frame} {a : Act} {ops : Array Oper} {i : Nat} {rest : List Nat} {o : Oper} {k : List Item} {cs : List Frame} {Fin : Goroutine → World → Prop} {E : Nat → Option (List Value)} {R : Option Nat}
theorem MB.val (v : Value) (ho : ops[i]? = some o) (hw : Region.wanted o (yielded ops a.tmps) = true) (hk : b.kind ≠ .early) (hr : ∀ w2, Keeps O S w w2 → (execOp a.eval o).run P w2 = .ok (.value v) w2) (he : ∀ w2, Keeps O S w w2 → ∀ e ∈ (execOp a.eval o).events P w2 #[], EvW O S e)
    (h : MB P S Fin E R O (G (b.at (a.put o.dst v) (.inRegion ops rest :: k)) cs) w) : MB P S Fin E R O (G (b.at a (.inRegion ops (i :: rest) :: k)) cs) w :=
  .look rfl rfl (fun w2 k2 => ⟨_, stepG_value ho hw hk (hr w2 k2), fun e hh => he w2 k2 e (mem_listed hh)⟩) h
theorem MB.mov {x : Operand} (v : Value) (ho : ops[i]? = some o) (hw : Region.wanted o (yielded ops a.tmps) = true) (hop : o.op = .move x ∨ o.op = .assign x) (hv : a.eval x = v) (hk : b.kind ≠ .early)
    (h : MB P S Fin E R O (G (b.at (a.put o.dst v) (.inRegion ops rest :: k)) cs) w) : MB P S Fin E R O (G (b.at a (.inRegion ops (i :: rest) :: k)) cs) w := by
  refine .val v ho hw hk (fun w2 _ => ?_) (fun w2 _ => ?_) h
  · rcases hop with e | e <;> (unfold execOp; simp [e, hv])
  · rcases hop with e | e <;> (unfold execOp; simp [e])
/-- Something new is laid down. -/
theorem MB.newB (ob : Obj) (v : Nat → Value) (ho : ops[i]? = some o) (hw : Region.wanted o (yielded ops a.tmps) = true) (hk : b.kind ≠ .early) (hr : ∀ w2, Keeps O S w w2 → (execOp a.eval o).run P w2 = .ok (.value (v w2.heap.size)) (w2.alloc ob)) (he : ∀ w2, Keeps O S w w2 → (execOp a.eval o).events P w2 #[] = #[])
    (h : ∀ w2, Keeps O S w w2 → MB P S Fin E R (Ytgeoffpcmkofkaa.own O w2 (w2.alloc ob)) (G (b.at (a.put o.dst (v w2.heap.size)) (.inRegion ops rest :: k)) cs) (w2.alloc ob)) : MB P S Fin E R O (G (b.at a (.inRegion ops (i :: rest) :: k)) cs) w :=
  .go1 rfl fun w2 k2 => ⟨_, _, _, stepG_value ho hw hk (hr w2 k2), rfl, did_alloc ob, fun e hh => by
    have := mem_listed hh
    rw [he w2 k2] at this
    simp at this, h w2 k2⟩
theorem owns_keeps {w2 : World} {N e size n : Nat} {v : Value} {xs : List Value} (h : w.ownsRow N e size v n xs) (hO : ∀ g, v.ownBlock = some g → O g) (k : Keeps O S w w2) : w2.ownsRow N e size v n xs := by
  refine ⟨h.1, h.2.imp id fun ⟨g, cap, cur, h1, h2, h3, h4⟩ => ⟨g, cap, cur, h1, h2, ?_, h4⟩⟩
  rw [k.block g (.inl (hO g (by rw [h1]; rfl)))]
  exact h3
/-- All cells of the row are of a kind. -/
def AllRow (Ip : Value → Prop) (w : World) (v : Value) : Prop := ∀ g, v.ownBlock = some g → ∀ c e f, w.heap[g]? = some (.cells c e f) → ∀ x ∈ c.toList, Ip x
theorem append_all {Ip : Value → Prop} {t ty e size bytes N n m c : Nat} {i : TypeInfo} {z v v' : Value} {xs news : List Value} {a : Addr} {w w' : World}
    (ht : P.underlying t = some (.slice e)) (hi : P.info? e = some i) (hz : i.zero = some z) (hsize : i.size = size) (hby : i.bytes = bytes) (hown : w.ownsRow N e size v n xs) (hl : news.length = m * size) (hnews : ∀ j u, news[j]? = some u → w.cell? (a.add j) = some u) (h1 : ∀ u ∈ news, u.oneCell' = true)
    (h63 : n + m ≤ maxLen) (hbytes : (n + m) * bytes ≤ 140737488355328) (hm : m ≠ 0) (hall : AllRow Ip w v) (hzI : ∀ x ∈ z.cells.toList, Ip x) (hnI : ∀ x ∈ news, Ip x) (h : (Builtin.append_ #[t, t] ty #[v, .slice (some a) m c]).run P w = .ok v' w') : AllRow Ip w' v' := by
  subst hsize
  subst hby
  have hsmall : n + m ≤ 9223372036854775807 := by simp only [maxLen] at h63; omega
  have zc : ∀ k x, x ∈ (Builtin.zeroCells z.cells k).toList → Ip x := by
    intro k x hx
    unfold Builtin.zeroCells at hx
    simp only [Array.toList_map, List.mem_map, Array.mem_toList_iff, Array.mem_range] at hx
    obtain ⟨j, hj, rfl⟩ := hx
    have hpos : 0 < z.cells.size := by
      rcases Nat.eq_zero_or_pos z.cells.size with e | e
      · rw [e] at hj; omega
      · exact e
    have hlt := Nat.mod_lt j hpos
    rw [getElem!_pos z.cells (j % z.cells.size) hlt]
    exact hzI _ (by simp)
  have fresh : ∀ (u : World) (cs : Array Value) (vv : Nat → Value), (∀ x ∈ cs.toList, Ip x) → (∀ k, (vv k).ownBlock = some k) → AllRow Ip (u.alloc (.cells cs e)) (vv u.heap.size) := by
    intro u cs vv hcs hv g hg c' e' f' hc
    rw [hv] at hg
    injection hg with hg
    subst hg
    rw [alloc_heap, Array.getElem?_push_size] at hc
    injection hc with hc
    injection hc with hc _ _
    subst hc
    exact hcs
  rcases hown.2 with ⟨rfl, rfl⟩ | ⟨g, cap, cur, rfl, hbg, hg, hnc, hcm, hcs, htake⟩
  · have hr := run_append_nil (P := P) w t ty e i z ht hi hz a m c news hl hnews (by omega) (by omega) (by have hb := hbytes; simp only [Nat.zero_add] at hb; omega)
    rw [hr] at h
    injection h with h2 h3
    subst h2 h3
    refine fresh w.drew _ (fun k => .slice (some ⟨k, 0, none⟩) m _) (fun x hx => ?_) fun _ => rfl
    simp only [Array.toList_append, List.mem_append] at hx
    rcases hx with hx | hx
    · exact hnI x (by simpa using hx)
    · exact zc _ x hx
  · have hcur := hall g rfl cur e (0, 0) hg
    by_cases hroom : n + m ≤ cap
    · have hfit : n * i.size + news.length ≤ cur.size := by rw [hl, hcs, ← Nat.add_mul]; exact Nat.mul_le_mul_right _ hroom
      have hr := run_append_room (P := P) w t ty e i ht hi g n cap cur hg a m c news hl hnews h1 hroom hfit
      rw [hr] at h
      injection h with h2 h3
      subst h2 h3
      intro g' hg' c' e' f' hc x hx
      injection hg' with hg'
      simp only at hg'
      subst hg'
      rw [setRow_heap w g cur _ e _ hg] at hc
      injection hc with hc
      injection hc with hc _ _
      subst hc
      simp only [List.mem_append] at hx
      rcases hx with (hx | hx) | hx
      · exact hcur x (List.mem_of_mem_take hx)
      · exact hnI x hx
      · exact hcur x (List.mem_of_mem_drop hx)
    · have holds : ∀ j u, xs[j]? = some u → w.cell? ((⟨g, 0, none⟩ : Addr).add j) = some u := hown.cells (g := g) rfl
      have hr := run_append_grow (P := P) w t ty e i z ht hi hz ⟨g, 0, none⟩ n cap xs hown.1 holds a m c news hl hnews (by omega) (by omega) (growslice_fits (by omega) hbytes)
      rw [hr] at h
      injection h with h2 h3
      subst h2 h3
      refine fresh w.drew _ (fun k => .slice (some ⟨k, 0, none⟩) (n + m) _) (fun x hx => ?_) fun _ => rfl
      simp only [Array.toList_append, List.mem_append] at hx
      rcases hx with (hx | hx) | hx
      · exact hcur x (by rw [← htake] at hx; exact List.mem_of_mem_take (by simpa using hx))
      · exact hnI x (by simpa using hx)
      · exact zc _ x hx
theorem MB.app {Ip : Value → Prop} {t e size bytes N n m c : Nat} {inf : TypeInfo} {z v : Value} {xs news : List Value} {ad : Addr} (s x : Operand) (ho : ops[i]? = some o) (hw : Region.wanted o (yielded ops a.tmps) = true) (hk : b.kind ≠ .early)
    (hop : o.op = .call { callee := .builtin .append, args := #[s, x], argTypes := #[t, t] }) (hs : a.eval s = v) (hx : a.eval x = .slice (some ad) m c)
    (ht : P.underlying t = some (.slice e)) (hi : P.info? e = some inf) (hz : inf.zero = some z) (hsize : inf.size = size) (hby : inf.bytes = bytes) (hzs : z.cells.size = size) (hsz : 0 < size)
    (hown : w.ownsRow N e size v n xs) (hob : ∀ g, v.ownBlock = some g → O g) (had : O ad.block) (hl : news.length = m * size) (hnews : ∀ j u, news[j]? = some u → w.cell? (ad.add j) = some u) (h1 : ∀ u ∈ news, u.oneCell' = true)
    (h63 : n + m ≤ maxLen) (hbytes : (n + m) * bytes ≤ 140737488355328) (hbase : N ≤ w.heap.size) (hm : m ≠ 0) (hall : AllRow Ip w v) (hzI : ∀ x ∈ z.cells.toList, Ip x) (hnI : ∀ x ∈ news, Ip x)
    (h : ∀ w2 v' w', Keeps O S w w2 → w'.ownsRow N e size v' (n + m) (xs ++ news) → (∀ g, v'.ownBlock = some g → Ytgeoffpcmkofkaa.own O w2 w' g) → DidO O w2 w' → w2.grownBy w' v.ownBlock → (v'.ownBlock = v.ownBlock ∨ v'.ownBlock = some w2.heap.size) → AllRow Ip w' v' → MB P S Fin E R (Ytgeoffpcmkofkaa.own O w2 w') (G (b.at (a.put o.dst v') (.inRegion ops rest :: k)) cs) w') :
    MB P S Fin E R O (G (b.at a (.inRegion ops (i :: rest) :: k)) cs) w := by
  refine .go1 rfl fun w2 k2 => ?_
  have hown2 := owns_keeps hown hob k2
  have hnews2 : ∀ j u, news[j]? = some u → w2.cell? (ad.add j) = some u := fun j u hj => by
    rw [k2.cell (.inl (by rw [add_blk]; exact had))]
    exact hnews j u hj
  obtain ⟨v', w', k1, k3, k4, k5, k6⟩ := run_append_own_at (P := P) w2 N t o.type e inf z size bytes ht hi hz hsize hby hzs hsz v n xs hown2 ad m c news hl hnews2 h1 h63 hbytes (Nat.le_trans hbase k2.size)
  have hrun : (execOp a.eval o).run P w2 = .ok (.value v') w' := by
    unfold execOp
    simp only [hop, resolve, invoke, builtin, Sem.run_bind, Sem.run_pure, Result.andThen_ok, List.map_toArray, List.map_cons, List.map_nil, hs, hx, k1]
  have hev := events_append_op (P := P) (w := w2) s x t hop hs hx #[]
  have hwhere := events_append_where (P := P) w2 N t o.type e inf z size bytes ht hi hz hsize hby v n xs hown2 ad m c news hl hnews2 h1 h63 hbytes
  have hall2 : AllRow Ip w2 v := fun g hg c e f hc => hall g hg c e f (by rw [← k2.block g (.inl (hob g hg))]; exact hc)
  have hdid : DidO O w2 w' := ⟨k4.os, k4.tape, k4.output, k4.size, fun r hr hn => k4.block r hr fun e => hn (hob r e.symm)⟩
  refine ⟨_, w', _, stepG_value ho hw hk hrun, rfl, hdid, fun ev hh => ?_, h w2 v' w' k2 k3 (fun g hg => ?_) hdid k4 k6 (append_all ht hi hz hsize hby hown2 hl hnews2 h1 h63 hbytes hm hall2 hzI hnI k1)⟩
  · have := mem_listed hh
    rw [hev] at this
    rcases hwhere ev this with ⟨q, q1, q2⟩ | ⟨mk, q1, q2⟩
    · refine .inl ⟨q, q1, .inl (.inl ?_)⟩
      rcases q2 with ⟨_, q2⟩ | q2
      · rw [q2]; exact had
      · exact hob _ q2.symm
    · exact .inr (.inl ⟨mk, q1, .inl q2⟩)
  · rcases k6 with k6 | k6
    · exact .inl (hob g (by rw [← k6]; exact hg))
    · rw [k6] at hg
      injection hg with hg
      subst hg
      refine .inr ⟨Nat.le_refl _, ?_⟩
      rcases k3.2 with ⟨e, _⟩ | ⟨g, cap, cur, e, _, e3, _⟩
      · rw [e] at k6; cases k6
      · rw [e] at k6
        injection k6 with k6
        simp only at k6
        rw [← k6]
        exact (Array.getElem?_eq_some_iff.1 e3).1
end
end Go.Proofs.Ytgeoffpcmkofkaa
/- The one that starts them: it takes what one of them sends. -/
namespace Go.Proofs.Ytgeoffpcmkofkaa
open Go Go.Conc Go.RowKit
set_option maxRecDepth 100000

/-- Old memory is as it was; what is written is new. -/
structure M0 (N : Nat) (ws : World) (O : Nat → Prop) (w : World) : Prop where
  above : ∀ r, O r → N ≤ r
  old : ∀ r, r < N → w.heap[r]? = ws.heap[r]?
  size : N ≤ w.heap.size
  os : w.os = ws.os
  output : w.output = ws.output
theorem M0.step {N : Nat} {ws w w2 w1 : World} {O : Nat → Prop} (h : M0 N ws O w) (k : Keeps O (· < N) w w2) (d : DidO O w2 w1) : M0 N ws (own O w2 w1) w1 := by
  have hs := Nat.le_trans h.size k.size
  refine ⟨fun r hr => ?_, fun r hr => ?_, Nat.le_trans hs d.size, d.os.trans (k.os.trans h.os), d.output.trans (k.output.trans h.output)⟩
  · rcases hr with hr | hr
    · exact h.above r hr
    · omega
  · rw [d.kept r (by omega) fun ho => by have := h.above r ho; omega, k.block r (.inr hr)]
    exact h.old r hr
theorem M0.keeps {N : Nat} {ws w w2 : World} {O : Nat → Prop} (h : M0 N ws O w) (k : Keeps O (· < N) w w2) : M0 N ws O w2 := by
  have := h.step k (.refl _ _)
  rwa [own_same rfl] at this
def IsI (v : Value) : Prop := ∃ n, v = .int .i64 n
theorem AllRow.of {Ip : Value → Prop} {w w1 : World} {v : Value} (h : AllRow Ip w v) (k : ∀ g, v.ownBlock = some g → w1.heap[g]? = w.heap[g]?) : AllRow Ip w1 v := fun g hg c e f hc => h g hg c e f (by rw [← k g hg]; exact hc)
def chV (c : Nat) : Value := .chan (some c)
/-- .. and two rows of its own: channels, points. -/
structure M1 (N : Nat) (ws : World) (O : Nat → Prop) (w : World) (pv : Value) (cl : List Nat) (av : Value) (acc : Pts) : Prop where
  m0 : M0 N ws O w
  p : w.ownsRow N 108 1 pv cl.length (cl.map chV)
  po : ∀ g, pv.ownBlock = some g → O g
  a : w.ownsRow N 23 2 av acc.length (flatP acc)
  ao : ∀ g, av.ownBlock = some g → O g
  ne : ∀ g, pv.ownBlock = some g → av.ownBlock ≠ some g
  ai : AllRow IsI w av
section
variable {N : Nat} {ws w w2 w1 : World} {O : Nat → Prop} {pv av : Value} {cl : List Nat} {acc : Pts}
theorem row_lt {e size n : Nat} {v : Value} {xs : List Value} (h : w.ownsRow N e size v n xs) {g : Nat} (hg : v.ownBlock = some g) : g < w.heap.size := by
  rcases h.2 with ⟨rfl, _⟩ | ⟨g', cap, cur, rfl, _, h3, _⟩
  · cases hg
  · injection hg with hg
    simp only at hg
    rw [← hg]
    exact (Array.getElem?_eq_some_iff.1 h3).1
theorem row_of {e size n : Nat} {v : Value} {xs : List Value} (h : w.ownsRow N e size v n xs) (k : ∀ g, v.ownBlock = some g → w1.heap[g]? = w.heap[g]?) : w1.ownsRow N e size v n xs := by
  refine ⟨h.1, h.2.imp id fun ⟨g, cap, cur, h1, h2, h3, h4⟩ => ⟨g, cap, cur, h1, h2, ?_, h4⟩⟩
  rw [k g (by rw [h1]; rfl)]
  exact h3
theorem M1.keeps (h : M1 N ws O w pv cl av acc) (k : Keeps O (· < N) w w2) : M1 N ws O w2 pv cl av acc :=
  ⟨h.m0.keeps k, owns_keeps h.p h.po k, h.po, owns_keeps h.a h.ao k, h.ao, h.ne, h.ai.of fun g hg => k.block g (.inl (h.ao g hg))⟩
theorem M1.alloc (h : M1 N ws O w pv cl av acc) (ob : Obj) : M1 N ws (own O w (w.alloc ob)) (w.alloc ob) pv cl av acc :=
  ⟨h.m0.step (.refl _ _ _) (did_alloc ob), row_of h.p fun _ hg => alloc_ne ob (row_lt h.p hg), fun g hg => .inl (h.po g hg), row_of h.a fun _ hg => alloc_ne ob (row_lt h.a hg), fun g hg => .inl (h.ao g hg), h.ne, h.ai.of fun _ hg => alloc_ne ob (row_lt h.a hg)⟩
/-- Others are written. -/
theorem M1.other (h : M1 N ws O w pv cl av acc) (d : DidO O w w1) (hs : w1.heap.size = w.heap.size) (hp : ∀ g, pv.ownBlock = some g → w1.heap[g]? = w.heap[g]?) (ha : ∀ g, av.ownBlock = some g → w1.heap[g]? = w.heap[g]?) : M1 N ws O w1 pv cl av acc := by
  have := h.m0.step (.refl _ _ _) d
  rw [own_same hs] at this
  exact ⟨this, row_of h.p hp, h.po, row_of h.a ha, h.ao, h.ne, h.ai.of ha⟩
end
theorem Try.info23' : ∃ i, Try.prog.info? 23 = some i ∧ i.zero = some (.agg #[.int .i64 0, .int .i64 0]) ∧ i.size = 2 ∧ i.bytes = 16 := by
  obtain ⟨i0, h0, h1, h2, h3⟩ := info_parts Try.info23
  exact ⟨i0, h0, h1, h2, h3⟩
noncomputable def body71c : Code := match Try.f71.body with
  | some (.seq _ (.seq _ (.seq _ (.seq _ (.seq (.seq _ (.block _ (.loop (.seq _ (.seq _ (.seq (.block _ (.seq _ (.seq _ (.block _ (.loop b))))) _)))))) _))))) => b
  | _ => .skip
set_option maxHeartbeats 1000000 in
/-- What one of them sends is taken, one by one, till its channel is closed. -/
theorem take71 {N : Nat} {ws : World} {Fin : Goroutine → World → Prop} {cs : List Frame} {c : Nat} {pv : Value} {cl : List Nat} {nn jj : Int} {k : List Item} {x0 x1 x4 x5 x6 x8 x9 x11 x12 x13 x14 x15 x16 x17 x18 x19 x20 x21 x22 x23 x24 x25 x29 x30 x31 x40 x41 : Value} : ∀ (rem acc : Pts), acc.length + rem.length ≤ 100000 → ∀ (O : Nat → Prop) (w : World) (E : Nat → Option (List Value)) (av x10 x33 x34 x35 x36 x37 x38 x39 : Value), M1 N ws O w pv cl av acc → E c = some (rem.map ptV) →
    (∀ (O : Nat → Prop) (w : World) (E' : Nat → Option (List Value)) (av x10 x33 x34 x35 x36 x37 x38 x39 : Value), M1 N ws O w pv cl av (acc ++ rem) → E' c = none → (∀ d, d ≠ c → E' d = E d) →
      MB Try.prog (· < N) Fin E' none O (G ((base 71).at { tmps := #[x0, x1, .slice none 0 0, pv, x4, x5, x6, av, x8, x9, x10, x11, x12, x13, x14, x15, x16, x17, x18, x19, x20, x21, x22, x23, x24, x25, pv, .int .i64 nn, .int .i64 jj, x29, x30, x31, .chan (some c), x33, x34, x35, x36, x37, x38, x39, x40, x41], defers := [] } k) cs) w) →
    MB Try.prog (· < N) Fin E none O (G ((base 71).at { tmps := #[x0, x1, .slice none 0 0, pv, x4, x5, x6, av, x8, x9, x10, x11, x12, x13, x14, x15, x16, x17, x18, x19, x20, x21, x22, x23, x24, x25, pv, .int .i64 nn, .int .i64 jj, x29, x30, x31, .chan (some c), x33, x34, x35, x36, x37, x38, x39, x40, x41], defers := [] } (.code body71c :: .inLoop body71c :: .inBlock 4 :: k)) cs) w := by
  intro rem
  induction rem with
  | nil =>
    intro acc hlen O w E av x10 x33 x34 x35 x36 x37 x38 x39 hM hE cont
    simp only [body71c, Try.f71]
    refine .ctl rfl rfl (fun _ => stepG_seq) ?_
    refine .ctl rfl rfl (fun _ => stepG_region) ?_
    walk_nrm
    simp only [show List.range 2 = [0, 1] from rfl]
    refine .last (c := c) (z := .agg #[.int .i64 0, .int .i64 0]) rfl (fun w2 _ => ?_) hE ?_
    · rw [stepG_comm (cases := #[rcase c (.agg #[.int .i64 0, .int .i64 0])]) (blocking := true) (shape := .recv true) (w' := w2) rfl rfl (by decide) (by simp [go_sem, rcase])]
      simp [listed, go_sem, seen_none]
    unfold Conc.served
    simp only [G]
    rw [Frame.finish_at]
    simp only [recvd, if_true]
    walk_nrm
    refine .val (.bool false) rfl rfl (by decide) (fun w2 _ => by go_simp) (fun w2 _ => by simp [go_sem]) ?_
    walk_nrm
    refine .ctl rfl rfl (fun _ => stepG_region_end) ?_
    refine .ctl rfl rfl (fun _ => stepG_seq) ?_
    refine .ctl rfl rfl (fun _ => stepG_cond (t := false) rfl) ?_
    refine .ctl rfl rfl (fun _ => stepG_exit (k' := k) rfl) ?_
    exact cont O w (put E c none) av _ _ _ _ _ _ _ _ (by rw [List.append_nil]; exact hM) (put_same _ _ _) fun d hd => put_ne _ _ hd
  | cons p rem ih =>
    intro acc hlen O w E av x10 x33 x34 x35 x36 x37 x38 x39 hM hE cont
    simp only [body71c, Try.f71]
    refine .ctl rfl rfl (fun _ => stepG_seq) ?_
    refine .ctl rfl rfl (fun _ => stepG_region) ?_
    walk_nrm
    simp only [show List.range 2 = [0, 1] from rfl]
    refine .recv (c := c) (v := .agg #[.int .i64 p.1, .int .i64 p.2]) (z := .agg #[.int .i64 0, .int .i64 0]) (outs := rem.map ptV) rfl (fun w2 _ => ?_) hE ?_
    · rw [stepG_comm (cases := #[rcase c (.agg #[.int .i64 0, .int .i64 0])]) (blocking := true) (shape := .recv true) (w' := w2) rfl rfl (by decide) (by simp [go_sem, rcase])]
      simp [listed, go_sem, seen_none]
    unfold Conc.served
    simp only [G]
    rw [Frame.finish_at]
    simp only [recvd, if_true]
    walk_nrm
    refine .val (.bool true) rfl rfl (by decide) (fun w2 _ => by go_simp) (fun w2 _ => by simp [go_sem]) ?_
    walk_nrm
    refine .ctl rfl rfl (fun _ => stepG_region_end) ?_
    refine .ctl rfl rfl (fun _ => stepG_seq) ?_
    refine .ctl rfl rfl (fun _ => stepG_cond (t := true) rfl) ?_
    refine .ctl rfl rfl (fun _ => stepG_skip) ?_
    refine .ctl rfl rfl (fun _ => stepG_block) ?_
    refine .ctl rfl rfl (fun _ => stepG_seq) ?_
    refine .ctl rfl rfl (fun _ => stepG_region) ?_
    walk_nrm
    refine .val (.agg #[.int .i64 p.1, .int .i64 p.2]) rfl rfl (by decide) (fun w2 _ => by go_simp) (fun w2 _ => by simp [go_sem]) ?_
    walk_nrm
    refine .newB (.cells #[.int .i64 0, .int .i64 0] 23) (fun n => .pointer (some ⟨n, 0, none⟩)) rfl rfl (by decide) (fun w2 _ => by go_simp) (fun w2 _ => by simp [go_sem]) fun w2 k2 => ?_
    walk_nrm
    have hMk := hM.keeps k2
    replace hM := hMk.alloc (.cells #[.int .i64 0, .int .i64 0] 23)
    obtain ⟨n, hn⟩ : ∃ n, w2.heap.size = n := ⟨_, rfl⟩
    have hO1 : own O w2 (w2.alloc (.cells #[.int .i64 0, .int .i64 0] 23)) n := .inr ⟨by omega, by rw [alloc_heap, Array.size_push]; omega⟩
    have hcell : (w2.alloc (.cells #[.int .i64 0, .int .i64 0] 23)).heap[n]? = some (.cells #[.int .i64 0, .int .i64 0] 23 (0, 0)) := by
      rw [alloc_heap, ← hn]
      exact Array.getElem?_push_size
    have hnp : ∀ g, pv.ownBlock = some g → g ≠ n := fun g hg => by have := row_lt hMk.p hg; omega
    have hna : ∀ g, av.ownBlock = some g → g ≠ n := fun g hg => by have := row_lt hMk.a hg; omega
    rw [hn]
    generalize own O w2 (w2.alloc (.cells #[.int .i64 0, .int .i64 0] 23)) = O1 at hO1 hM ⊢
    generalize w2.alloc (.cells #[.int .i64 0, .int .i64 0] 23) = w3 at hcell hM ⊢
    refine .go1 rfl fun w4 k4 => ⟨_, (w4.setCell ⟨n, 0, none⟩ (.int .i64 p.1)).setCell ⟨n, 1, none⟩ (.int .i64 p.2), _, stepG_none rfl rfl (by decide) ?_, rfl, ?_, fun e he => ?_, ?_⟩
    · have h4 := k4.block n (.inl hO1)
      rw [hcell] at h4
      obtain ⟨⟨q1, q2⟩, ⟨q3, q4⟩, _⟩ := two_cells (u := .int .i64 p.1) h4
      go_simp
    · exact (did_setc _ _ hO1).trans (did_setc _ _ hO1)
    · have h4 := k4.block n (.inl hO1)
      rw [hcell] at h4
      obtain ⟨⟨q1, q2⟩, ⟨q3, q4⟩, _⟩ := two_cells (u := .int .i64 p.1) h4
      have := mem_listed he
      simp [go_sem, storedEv, q1, q2, q3, q4] at this
      rw [own_same (by rw [set_size, set_size])]
      rcases this with rfl | rfl
      · exact .inl ⟨_, rfl, .inl hO1⟩
      · exact .inl ⟨_, rfl, .inl hO1⟩
    rw [own_same (by rw [set_size, set_size])]
    have h4 := k4.block n (.inl hO1)
    rw [hcell] at h4
    have hcell5 := (two_cells (u := .int .i64 p.1) h4).2.2 (.int .i64 p.2)
    replace hM := (hM.keeps k4).other (w1 := (w4.setCell ⟨n, 0, none⟩ (.int .i64 p.1)).setCell ⟨n, 1, none⟩ (.int .i64 p.2)) ((did_setc _ _ hO1).trans (did_setc _ _ hO1)) (by rw [set_size, set_size]) (fun g hg => by rw [Below.heap_setCell _ _ _ _ (hnp g hg), Below.heap_setCell _ _ _ _ (hnp g hg)]) (fun g hg => by rw [Below.heap_setCell _ _ _ _ (hna g hg), Below.heap_setCell _ _ _ _ (hna g hg)])
    generalize (w4.setCell ⟨n, 0, none⟩ (.int .i64 p.1)).setCell ⟨n, 1, none⟩ (.int .i64 p.2) = w5 at hcell5 hM ⊢
    walk_nrm
    refine .ctl rfl rfl (fun _ => stepG_region_end) ?_
    refine .ctl rfl rfl (fun _ => stepG_region) ?_
    walk_nrm
    refine .mov av rfl rfl (.inl rfl) rfl (by decide) ?_
    walk_nrm
    refine .val (.agg #[.int .i64 p.1, .int .i64 p.2]) rfl rfl (by decide) (fun w2 k2 => ?_) (fun w2 k2 => ?_) ?_
    · have h6 := k2.block n (.inl hO1)
      rw [hcell5] at h6
      have h1 : w2.cell? ⟨n, 0, none⟩ = some (.int .i64 p.1) := by simp [World.cell?, h6]
      have h2 : w2.cell? ⟨n, 1, none⟩ = some (.int .i64 p.2) := by simp [World.cell?, h6]
      go_simp
    · have h6 := k2.block n (.inl hO1)
      rw [hcell5] at h6
      have h1 : w2.cell? ⟨n, 0, none⟩ = some (.int .i64 p.1) := by simp [World.cell?, h6]
      have h2 : w2.cell? ⟨n, 1, none⟩ = some (.int .i64 p.2) := by simp [World.cell?, h6]
      intro e he
      simp [go_sem, h1, h2] at he
      rcases he with rfl | rfl
      · exact .inl ⟨_, rfl, .inl hO1⟩
      · exact .inl ⟨_, rfl, .inl hO1⟩
    walk_nrm
    refine .newB (.cells #[.int .i64 p.1, .int .i64 p.2] 23) (fun n => .slice (some ⟨n, 0, none⟩) 1 1) rfl rfl (by decide) (fun w2 _ => by go_simp) (fun w2 _ => by simp [go_sem]) fun w6 k6 => ?_
    walk_nrm
    replace hM := (hM.keeps k6).alloc (.cells #[.int .i64 p.1, .int .i64 p.2] 23)
    obtain ⟨n', hn'⟩ : ∃ n, w6.heap.size = n := ⟨_, rfl⟩
    have hO6 : own O1 w6 (w6.alloc (.cells #[.int .i64 p.1, .int .i64 p.2] 23)) n' := .inr ⟨by omega, by rw [alloc_heap, Array.size_push]; omega⟩
    have hcell6 : (w6.alloc (.cells #[.int .i64 p.1, .int .i64 p.2] 23)).heap[n']? = some (.cells #[.int .i64 p.1, .int .i64 p.2] 23 (0, 0)) := by
      rw [alloc_heap, ← hn']
      exact Array.getElem?_push_size
    rw [hn']
    generalize own O1 w6 (w6.alloc (.cells #[.int .i64 p.1, .int .i64 p.2] 23)) = O6 at hO6 hM ⊢
    generalize w6.alloc (.cells #[.int .i64 p.1, .int .i64 p.2] 23) = w7 at hcell6 hM ⊢
    obtain ⟨i0, hi0, hz0, hz1, hz2⟩ := Try.info23'
    refine .app (N := N) (news := [.int .i64 p.1, .int .i64 p.2]) (.tmp 36) (.tmp 38) rfl rfl (by decide) rfl rfl rfl Try.underlying28 hi0 hz0 hz1 hz2 rfl (by omega) hM.a hM.ao hO6 rfl ?_ ?_ ?_ ?_ hM.m0.size (by omega) hM.ai ?_ ?_ fun w8 v' w9 k8 r1 r2 r3 r4 r5 r6 => ?_
    · intro j u hj
      match j, hj with
      | 0, hj => simp at hj; subst hj; simp [World.cell?, Addr.add_lit, hcell6]
      | 1, hj => simp at hj; subst hj; simp [World.cell?, Addr.add_lit, hcell6]
      | j + 2, hj => simp at hj
    · intro u hu
      simp at hu
      rcases hu with rfl | rfl <;> rfl
    · simp at hlen; simp only [maxLen]; omega
    · simp at hlen; omega
    · intro x hx
      simp [Value.cells] at hx
      exact ⟨0, hx⟩
    · intro x hx
      simp at hx
      rcases hx with rfl | rfl
      · exact ⟨_, rfl⟩
      · exact ⟨_, rfl⟩
    walk_nrm
    have hM9 : M1 N ws (own O6 w8 w9) w9 pv cl v' (acc ++ [p]) := by
      have hp8 := owns_keeps hM.p hM.po k8
      refine ⟨hM.m0.step k8 r3, row_of hp8 fun g hg => r4.block g (row_lt hp8 hg) fun e => hM.ne g hg e.symm, fun g hg => .inl (hM.po g hg), ?_, r2, (fun g hg e => ?_), r6⟩
      · rw [List.length_append, flatP_append]
        exact r1
      · rcases r5 with r5 | r5
        · rw [r5] at e; exact hM.ne g hg e
        · rw [r5] at e
          injection e with e
          have := row_lt hp8 hg
          omega
    refine .mov v' rfl rfl (.inr rfl) rfl (by decide) ?_
    walk_nrm
    refine .ctl rfl rfl (fun _ => stepG_region_end) ?_
    refine .ctl rfl rfl (fun _ => stepG_inBlock) ?_
    refine .ctl rfl rfl (fun _ => stepG_inLoop) ?_
    exact ih (acc ++ [p]) (by simp at hlen ⊢; omega) _ w9 (put E c (some (rem.map ptV))) v' _ _ _ _ _ _ _ _ hM9 (put_same _ _ _) fun O w E' av x10 x33 x34 x35 x36 x37 x38 x39 q1 q2 q3 => cont O w E' av x10 x33 x34 x35 x36 x37 x38 x39 (by simpa using q1) q2 fun d hd => by rw [q3 d hd, put_ne _ _ hd]
end Go.Proofs.Ytgeoffpcmkofkaa
/- The one that starts them: it takes what each of them sends. -/
namespace Go.Proofs.Ytgeoffpcmkofkaa
open Go Go.Conc Go.RowKit
set_option maxRecDepth 100000

noncomputable def body71b : Code := match Try.f71.body with
  | some (.seq _ (.seq _ (.seq _ (.seq _ (.seq (.seq _ (.block _ (.loop b))) _))))) => b
  | _ => .skip
noncomputable def tail71 : Code := match Try.f71.body with
  | some (.seq _ (.seq _ (.seq _ (.seq _ (.seq _ t))))) => t
  | _ => .skip
/-- What stands in the channels from the j-th on. -/
structure ERs (E : Nat → Option (List Value)) (cl : List Nat) (outs : Nat → Pts) (j : Nat) : Prop where
  there : ∀ (i c : Nat), j ≤ i → cl[i]? = some c → E c = some ((outs i).map ptV)
  only : ∀ c o, E c = some o → ∃ i : Nat, j ≤ i ∧ cl[i]? = some c
  once : ∀ (i i' c : Nat), cl[i]? = some c → cl[i']? = some c → i = i'
def cat (outs : Nat → Pts) (j : Nat) : Pts := (List.range j).flatMap outs
theorem cat_succ (outs : Nat → Pts) (j : Nat) : cat outs (j + 1) = cat outs j ++ outs j := by
  simp [cat, List.range_succ]
theorem cat_le (outs : Nat → Pts) {j m : Nat} (h : j ≤ m) : (cat outs j).length ≤ (cat outs m).length := by
  induction m with
  | zero => have : j = 0 := by omega
            subst this; exact Nat.le_refl _
  | succ m ih =>
    rcases Nat.lt_or_ge j (m + 1) with h1 | h1
    · rw [cat_succ, List.length_append]
      have := ih (by omega)
      omega
    · have : j = m + 1 := by omega
      subst this
      exact Nat.le_refl _
theorem elem105 : Try.prog.underlying 105 = some (.slice (Try.prog.elem 105)) := by kernel_rfl
theorem elem106 : Try.prog.underlying 106 = some (.slice (Try.prog.elem 106)) := by kernel_rfl
set_option maxHeartbeats 1000000 in
theorem all71 {N : Nat} {ws : World} {Fin : Goroutine → World → Prop} {cs : List Frame} {pv : Value} {cl : List Nat} {outs : Nat → Pts} {x0 x1 x4 x5 x6 x8 x11 x12 x13 x14 x15 x16 x17 x18 x19 x20 x21 x22 x23 x24 x25 x41 : Value} {m : Nat} (hm : m ≤ 1000) (hcl : cl.length = m) (hlen : (cat outs m).length ≤ 10000)
    (hFin : ∀ (O : Nat → Prop) (w : World) (av : Value) (tmps : Array Value) (todo : List Item), M1 N ws O w pv cl av (cat outs m) → tmps.getD 2 undef = av → Fin (G { (base 71).at { tmps := tmps, defers := [] } todo with mode := .returning } cs) w) :
    ∀ (d j : Nat), j + d = m → ∀ (O : Nat → Prop) (w : World) (E : Nat → Option (List Value)) (av x9 x10 x29 x30 x31 x32 x33 x34 x35 x36 x37 x38 x39 x40 : Value), M1 N ws O w pv cl av (cat outs j) → ERs E cl outs j →
      MB Try.prog (· < N) Fin E none O (G ((base 71).at { tmps := #[x0, x1, .slice none 0 0, pv, x4, x5, x6, av, x8, x9, x10, x11, x12, x13, x14, x15, x16, x17, x18, x19, x20, x21, x22, x23, x24, x25, pv, .int .i64 (m : Nat), .int .i64 (j : Nat), x29, x30, x31, x32, x33, x34, x35, x36, x37, x38, x39, x40, x41], defers := [] } [.code body71b, .inLoop body71b, .inBlock 2, .code tail71]) cs) w := by
  intro d
  induction d with
  | zero =>
    intro j hj O w E av x9 x10 x29 x30 x31 x32 x33 x34 x35 x36 x37 x38 x39 x40 hM hE
    have hj : j = m := by omega
    subst hj
    simp only [body71b, Try.f71]
    refine .ctl rfl rfl (fun _ => stepG_seq) ?_
    refine .ctl rfl rfl (fun _ => stepG_region) ?_
    walk_nrm
    refine .val (.bool false) rfl rfl (by decide) (fun w2 _ => by go_simp) (fun w2 _ => by simp [go_sem]) ?_
    walk_nrm
    refine .ctl rfl rfl (fun _ => stepG_region_end) ?_
    refine .ctl rfl rfl (fun _ => stepG_seq) ?_
    refine .ctl rfl rfl (fun _ => stepG_cond (t := false) rfl) ?_
    refine .ctl rfl rfl (fun _ => stepG_exit (k' := [.code tail71]) rfl) ?_
    simp only [tail71, Try.f71]
    refine .ctl rfl rfl (fun _ => stepG_seq) ?_
    refine .ctl rfl rfl (fun _ => stepG_region) ?_
    walk_nrm
    refine .mov av rfl rfl (.inl rfl) rfl (by decide) ?_
    walk_nrm
    refine .mov av rfl rfl (.inr rfl) rfl (by decide) ?_
    walk_nrm
    refine .ctl rfl rfl (fun _ => stepG_region_end) ?_
    refine .ctl rfl rfl (fun _ => stepG_ret') ?_
    refine .stop (fun c => ?_) fun w2 k2 => hFin O w2 av _ _ (hM.keeps k2) rfl
    cases hc : E c with
    | none => rfl
    | some o =>
      obtain ⟨i, h1, h2⟩ := hE.only c o hc
      have := (List.getElem?_eq_some_iff.1 h2).1
      omega
  | succ d ih =>
    intro j hj O w E av x9 x10 x29 x30 x31 x32 x33 x34 x35 x36 x37 x38 x39 x40 hM hE
    have hjm : j < m := by omega
    obtain ⟨c, hc⟩ : ∃ c, cl[j]? = some c := ⟨_, List.getElem?_eq_getElem (by omega)⟩
    simp only [body71b, Try.f71]
    refine .ctl rfl rfl (fun _ => stepG_seq) ?_
    refine .ctl rfl rfl (fun _ => stepG_region) ?_
    walk_nrm
    refine .val (.bool true) rfl rfl (by decide) (fun w2 _ => by go_simp) (fun w2 _ => by simp [go_sem]) ?_
    walk_nrm
    refine .ctl rfl rfl (fun _ => stepG_region_end) ?_
    refine .ctl rfl rfl (fun _ => stepG_seq) ?_
    refine .ctl rfl rfl (fun _ => stepG_cond (t := true) rfl) ?_
    refine .ctl rfl rfl (fun _ => stepG_skip) ?_
    refine .ctl rfl rfl (fun _ => stepG_seq) ?_
    refine .ctl rfl rfl (fun _ => stepG_block) ?_
    refine .ctl rfl rfl (fun _ => stepG_seq) ?_
    refine .ctl rfl rfl (fun _ => stepG_region) ?_
    walk_nrm
    obtain ⟨g, cap, hpv, hg, hrow⟩ : ∃ g cap, pv = .slice (some ⟨g, 0, none⟩) m cap ∧ O g ∧ w.cell? ⟨g, j, none⟩ = some (.chan (some c)) := by
      rcases hM.p.2 with ⟨_, e⟩ | ⟨g, cap, cur, e1, e2, e3, e4, e5, e6, e7⟩
      · omega
      · refine ⟨g, cap, by rw [e1, hcl], hM.po g (by rw [e1]; rfl), ?_⟩
        have : cur.toList[j]? = some (.chan (some c)) := by
          have h1 : (cur.toList.take (cl.length * 1))[j]? = some (.chan (some c)) := by
            rw [e7, List.getElem?_map, hc]
            rfl
          rw [List.getElem?_take_of_lt (by omega)] at h1
          exact h1
        simp only [World.cell?, e3]
        simpa using this
    subst hpv
    refine .val (.pointer (some ⟨g, j, none⟩)) rfl rfl (by decide) (fun w2 _ => by go_simp) (fun w2 _ => by simp [go_sem, events_indexAt_slice 105 _ _ _ _ _ elem105 (show (0 : Int) ≤ j ∧ (j : Int) < m by omega)]) ?_
    walk_nrm
    refine .val (.chan (some c)) rfl rfl (by decide) (fun w2 k2 => ?_) (fun w2 k2 => ?_) ?_
    · have h1 := k2.cell (ad := ⟨g, j, none⟩) (.inl hg)
      rw [hrow] at h1
      go_simp
    · have h1 := k2.cell (ad := ⟨g, j, none⟩) (.inl hg)
      rw [hrow] at h1
      intro e he
      simp [go_sem, h1] at he
      subst he
      exact .inl ⟨_, rfl, .inl hg⟩
    walk_nrm
    refine .mov (.chan (some c)) rfl rfl (.inr rfl) rfl (by decide) ?_
    walk_nrm
    refine .ctl rfl rfl (fun _ => stepG_region_end) ?_
    refine .ctl rfl rfl (fun _ => stepG_seq) ?_
    refine .ctl rfl rfl (fun _ => stepG_region) ?_
    walk_nrm
    refine .mov (.chan (some c)) rfl rfl (.inl rfl) rfl (by decide) ?_
    walk_nrm
    refine .ctl rfl rfl (fun _ => stepG_region_end) ?_
    refine .ctl rfl rfl (fun _ => stepG_block) ?_
    refine .ctl rfl rfl (fun _ => stepG_loop) ?_
    have hle : (cat outs j).length + (outs j).length ≤ 100000 := by
      have := cat_le outs (show j + 1 ≤ m by omega)
      rw [cat_succ, List.length_append] at this
      omega
    refine take71 (c := c) (outs j) (cat outs j) hle O w E av _ _ _ _ _ _ _ _ hM (hE.there j c (Nat.le_refl _) hc) fun O w E' av y10 y33 y34 y35 y36 y37 y38 y39 hM' h1 h2 => ?_
    refine .ctl rfl rfl (fun _ => stepG_inBlock) ?_
    refine .ctl rfl rfl (fun _ => stepG_region) ?_
    walk_nrm
    refine .val (.int .i64 ((j + 1 : Nat) : Int)) rfl rfl (by decide) (fun w2 _ => by go_simp; rw [IntKind.wrap_i64]; omega) (fun w2 _ => by simp [go_sem]) ?_
    walk_nrm
    refine .mov (.int .i64 ((j + 1 : Nat) : Int)) rfl rfl (.inl rfl) rfl (by decide) ?_
    walk_nrm
    refine .ctl rfl rfl (fun _ => stepG_region_end) ?_
    refine .ctl rfl rfl (fun _ => stepG_inLoop) ?_
    refine ih (j + 1) (by omega) O w E' av _ _ _ _ _ _ _ _ _ _ _ _ _ _ (by rw [cat_succ]; exact hM') ⟨fun i d hi hd => ?_, fun d o hd => ?_, hE.once⟩
    · have : d ≠ c := by
        rintro rfl
        have := hE.once i j d hd hc
        omega
      rw [h2 d this]
      exact hE.there i d (by omega) hd
    · by_cases e : d = c
      · rw [e, h1] at hd; cases hd
      · rw [h2 d e] at hd
        obtain ⟨i, q1, q2⟩ := hE.only d o hd
        refine ⟨i, ?_, q2⟩
        rcases Nat.lt_or_ge j i with h | h
        · exact h
        · have : i = j := by omega
          subst this
          rw [hc] at q2
          injection q2 with q2
          exact absurd q2.symm e
end Go.Proofs.Ytgeoffpcmkofkaa
