/- Mj; Mr; Pa; Mk; Mw; Wu; Wv; Oa; Sh; Ob; Oc: texts laid into one. -/
import Derived.Test.YtgeoffpcmkofkaaQar
import Derived.Test.YtgeoffpcmkofkaaRows
import Derived.Conc.LeavingOf
import Derived.Test.YtgeoffpcmkofkaaQaq
import Derived.Deep.AppendLies
import Derived.Lib.AppendZeros
import Derived.Test.YtgeoffpcmkofkaaQaf
import Derived.Deep.SlicePairs
import Derived.SizedLaws
import Derived.Carry
import Derived.Test.YtgeoffpcmkofkaaQap
import Derived.Sort.Grow
import Derived.Shelf.SlSortCmp.WholeK
import Derived.Shelf.SlGeneric
import Derived.Test.YtgeoffpcmkofkaaProg
import Derived.Sort.OwnSorted
/- The corners of some points, worked out in company. -/
namespace Go.Proofs.Ytgeoffpcmkofkaa
open Go Go.Conc Go.RowKit

/-- A row of points that is not the one that was read. -/
def RowQ (r0 : Nat) (v : Value) (w : World) (out : Pts) : Prop := (v = .slice none 0 0 ∧ out = []) ∨ ∃ g cap, v = .slice (some ⟨g, 0, none⟩) out.length cap ∧ g ≠ r0 ∧ PtsAt w g 0 out
/-- What 'around' does, alone, with a row that may not be written. -/
def AroundC (r0 off n cap : Nat) (c : Array Value) (out : Pts) : Prop := ∀ wl : World, wl.heap[r0]? = some (.cells c 23 (0, c.size)) → Calls Try.prog 70 #[.slice (some ⟨r0, off, none⟩) n cap] wl fun e w' => ∃ v, e = .returned v ∧ RowQ r0 v w' out
/-- .. and with none. -/
def AroundN (out : Pts) : Prop := ∀ wl : World, Calls Try.prog 70 #[.slice none 0 0] wl fun e w' => ∃ v, e = .returned v ∧ RowQ 0 v w' out
noncomputable abbrev GN : Nat := Try.prog.globals.size
section
variable {L : Nat} {FS : FuncId → Prop} {O S : Nat → Prop} {B : BR} {wl w : World} {v v' : Value} {out : Pts} {r0 : Nat}
theorem row_fin {Sh : Nat → Prop} (hSh : ∀ r, Sh r → r = r0) (hH : Has Sh B O S) (hw : WR L FS Sh B wl w) (hv : VR L FS B v v') (hq : RowQ r0 v wl out) : RowO O w v' out := by
  rcases hq with ⟨rfl, rfl⟩ | ⟨g, cap, rfl, hg, hp⟩
  · cases hv
    exact .inl ⟨rfl, rfl⟩
  · cases hv with
    | slice l c ha =>
      rename_i a'
      obtain ⟨b', o', s'⟩ := a'
      have h1 : o' = 0 := ha.off
      have h2 : s' = none := ha.spot
      subst h1 h2
      have hB : B g b' := ha.block
      refine .inr ⟨b', cap, rfl, (hH g b' hB).2 fun h => hg (hSh g h), fun i hi => ?_⟩
      obtain ⟨q1, q2⟩ := hp i hi
      have a1 : AR L B (⟨g, 0 + i * 2, none⟩ : Addr) ⟨b', 0 + i * 2, none⟩ := ⟨hB, rfl, rfl, ha.low⟩
      have a2 : AR L B (⟨g, 0 + i * 2 + 1, none⟩ : Addr) ⟨b', 0 + i * 2 + 1, none⟩ := ⟨hB, rfl, rfl, ha.low⟩
      obtain ⟨x, e1, e2⟩ := hw.cell a1 q1
      obtain ⟨y, e3, e4⟩ := hw.cell a2 q2
      cases e2
      cases e4
      exact ⟨e1, e3⟩
theorem ints_rel {c : Array Value} (h : ∀ x ∈ c.toList, ∃ n, x = .int .i64 n) (B : BR) : VRs L FS B c.toList c.toList := by
  generalize c.toList = l at h
  induction l with
  | nil => exact .nil
  | cons x l ih =>
    obtain ⟨n, rfl⟩ := h x (by simp)
    exact .cons (.int _ _) (ih fun y hy => h y (by simp [hy]))
theorem rowQ_on {T : Nat → Question → Nat} (h : RowQ r0 v w out) : RowQ r0 v (on w T) out := h
end
theorem fs70 : FSof fsB 70 := by decide
/-- The call, in company: it runs to its end. -/
theorem around_runs {r0 off n cap N : Nat} {c : Array Value} {out : Pts} {w : World} (hC : AroundC r0 off n cap c out) (hw : w.heap[r0]? = some (.cells c 23 (0, 0))) (hc : ∀ x ∈ c.toList, ∃ n, x = .int .i64 n) (hG : GN ≤ w.heap.size) (hr : GN ≤ r0) (hN : r0 < N) (base : List Frame) :
    Runs Try.prog (· < N) base (FinV GN (FSof fsB) (· = r0) Try.prog (· < N) (PostV Try.prog 70 fun v w' => RowQ r0 v w' out)) (fun _ => False) (Frame.enter Try.prog 70 #[.slice (some ⟨r0, off, none⟩) n cap] .normal) base w := by
  have hlt : r0 < w.heap.size := (Array.getElem?_eq_some_iff.1 hw).1
  refine runs_of_calls (G := GN) (FS := FSof fsB) (Sh := (· = r0)) (Q := fun v w' => RowQ r0 v w' out) (openOK (Nat.le_refl _)) bodies noEarly fs70 (B := fun r r' => r = r0 ∧ r' = r0) (xs := #[.slice (some ⟨r0, off, none⟩) n cap]) ?_ (iced_WR (c := c) (e := 23) hw hG fun B => ints_rel hc B) (fun r r' hb => ⟨fun _ => by rw [hb.2]; exact hN, fun h => absurd hb.1 h⟩) (fun v w T h => rowQ_on h) (fun T => hC (on (iced w r0 c 23) T) (iced_at hlt)) base
  exact .cons (.slice _ _ ⟨⟨rfl, rfl⟩, rfl, rfl, hr⟩) .nil
theorem around_fin {r0 N : Nat} {out : Pts} {O : Nat → Prop} {fr : Frame} {w : World} (hm : fr.mode = .returning) (h : ∀ w2, Keeps O (· < N) w w2 → FinV GN (FSof fsB) (· = r0) Try.prog (· < N) (PostV Try.prog 70 fun v w' => RowQ r0 v w' out) O fr w2) :
    ∃ v', RowO O w v' out ∧ ∀ main w2 c rest, stepG Try.prog main (G fr (c :: rest)) w2 = .go (G (c.finish v') rest) w2 #[] := by
  obtain ⟨v', h1, h2⟩ := fin_ret2 bodies fs70 h hm
  obtain ⟨B, v, wl, q1, q2, q3, q4⟩ := h1 w (Keeps.refl _ _ _)
  exact ⟨v', row_fin (fun r h => h) q1 q2 q3 q4, fun main w2 c rest => h2 w2 main c rest⟩
/-- One that works a part's corners out and sends them. -/
theorem kid71 {r0 off n cap N ch : Nat} {c : Array Value} {out : Pts} {w : World} (hC : AroundC r0 off n cap c out) (hw : w.heap[r0]? = some (.cells c 23 (0, 0))) (hc : ∀ x ∈ c.toList, ∃ n, x = .int .i64 n) (hG : GN ≤ w.heap.size) (hr : GN ≤ r0) (hN : r0 < N) (hlen : out.length ≤ 1000) :
    KT Try.prog (· < N) ch (out.map ptV) (fun _ => False) (born Try.prog (dcall 91 #[.slice (some ⟨r0, off, none⟩) n cap, .chan (some ch)])) w := by
  refine kid91 hlen (fun base w2 k => around_runs hC (by rw [k.block r0 (.inr hN)]; exact hw) hc (Nat.le_trans hG k.size) hr hN base) fun O fr w2 hm hf => ?_
  obtain ⟨v', h1, h2⟩ := around_fin hm hf
  exact ⟨v', h1, fun w2 c rest => h2 false w2 c rest⟩
/-- The main goroutine calls it. -/
theorem A.around {Post : Value → World → Prop} {r0 off n cap : Nat} {c : Array Value} {out : Pts} {w : World} {x : Frame} {cs : List Frame} (hC : AroundC r0 off n cap c out) (hw : w.heap[r0]? = some (.cells c 23 (0, 0))) (hc : ∀ x ∈ c.toList, ∃ n, x = .int .i64 n) (hr : GN ≤ r0)
    (h : ∀ v w', RowO (w.heap.size ≤ ·) w' v out → w.heap.size ≤ w'.heap.size → w'.os = w.os → w'.output = w.output → (∀ r, r < w.heap.size → w'.heap[r]? = w.heap[r]?) → A Try.prog Post (x.finish v) cs w') :
    A Try.prog Post (Frame.enter Try.prog 70 #[.slice (some ⟨r0, off, none⟩) n cap] .normal) (x :: cs) w := by
  have hlt : r0 < w.heap.size := (Array.getElem?_eq_some_iff.1 hw).1
  have hR := around_runs (N := w.heap.size) hC hw hc (by omega) hr hlt (x :: cs)
  refine A.of_runs hR (fun r hr => hr.elim (fun h => h.elim) id) fun O' fr w' hm hf q1 q2 q3 q4 q5 q6 => ?_
  obtain ⟨v', h1, h2⟩ := around_fin hm hf
  refine .ctl (fun w2 => h2 true w2 x cs) (h v' w' ?_ q3 q4 q5 fun r hr => q6 r hr fun h => h.elim)
  exact h1.imp id fun ⟨g, cap, e1, e2, e3⟩ => ⟨g, cap, e1, (q1 g e2).elim (fun h => h.elim) id, e3⟩
end Go.Proofs.Ytgeoffpcmkofkaa
/- From a walk beside goroutines that only leave to the row's contract. -/
namespace Go.Proofs.Ytgeoffpcmkofkaa
open Go Go.Conc
set_option maxRecDepth 100000

theorem A.start {P : Program} {Post : Value → World → Prop} {fr : Frame} {W : World} (h : A P Post fr [] W) : Fine P Post (solo (G fr []) W) #[] :=
  h #[G fr []] W none #[] (fun _ => 0) none (Same.refl W) rfl (leavers_one P _) (past_nil.mono (Nat.zero_le _))
theorem begun : GN < (begin Try.prog (fun _ _ => 0) default).world.heap.size := of_decide_eq_true (by kernel_rfl)
theorem shaped_GN {w : World} (h : w.ShapedOpen Try.prog) : GN ≤ w.heap.size := by
  obtain ⟨o, _, h1, _⟩ := h.2 GN (Nat.le_refl _) begun
  exact Nat.le_of_lt (Array.getElem?_eq_some_iff.1 h1).1
section
variable {H : Type} {enc : TypeId × Value → H}
/-- A walk from every start gives the contract. -/
theorem leaves {a : Assume} {os : Os} {f : FuncId} {fn : Func} {s : ChangeSpec} {conds : List PathCond} {apart fresh handsOn again : Bool}
    (own : ownKnob Try.checked.prog.godebug = none) (started : os.Started) (hfn : Try.checked.prog.funcs[f]? = some fn)
    (witness : ∃ (w : World) (tape : Tape) (i : Input), w.os = os ∧ (w.forCall tape i).Shaped Try.checked.prog ∧ i.vars = [] ∧ Input.okWide Try.checked.prog (w.forCall tape i) .any w.heap.size f i ∧
      s.pre6 enc Try.checked.prog fn conds apart (w.forCall tape i).memory i.args ∧ a.holds Try.checked.prog (lone (Frame.enter Try.checked.prog f i.args .normal) [] (w.forCall tape i)))
    (runs : ∀ (W : World) (base : Nat) (args : Array Value) (ds gs : List (DataW H)) (before : List MemPlace), GN ≤ W.heap.size →
      (∀ (j : Nat) t v, fn.params[j]? = some t → args[j]? = some v → Value.okWide Try.checked.prog W .any base t v) →
      DataW.Whole enc Try.checked.prog fn.params.toList s.vars apart W args.toList ds gs before →
      (DataW.weightsEach Try.checked.prog (fn.params.toList ++ s.plain.varTypes Try.checked.prog) (ds ++ gs)).all (· ≤ reachBytes) = true →
      A Try.checked.prog (fun v W' => s.post enc Try.checked.prog fn apart fresh handsOn again W args v W') (Frame.enter Try.checked.prog f args .normal) [] W) :
    ReturnsInLeavingWide a Try.checked os f .any (s.pre6 enc Try.checked.prog fn conds apart) (s.post enc Try.checked.prog fn apart fresh handsOn again) := by
  refine returnsInLeavingWide_of_good own started witness ?_
  intro w tape i _ hsh _ hok hpre _
  obtain ⟨_, _, _, fn', hfn', _, _, _, _, hval⟩ := hok
  have e : fn' = fn := Option.some.inj (hfn'.symm.trans hfn)
  subst e
  obtain ⟨⟨ds, gs, before, hw, _⟩, hz⟩ := hpre
  have hw' := DataW.Whole.of_heap (w' := w.forCall tape i) (by rfl) hw
  obtain ⟨M, last, o, w', t', h1, h2, h3, h4⟩ := (runs (w.forCall tape i) w.heap.size i.args ds gs before (shaped_GN hsh) hval hw' (hz.weights hw)).start
  exact ⟨M, last, o, w', t', h1, h2, h3, h4.mono fun v hp => ChangeSpec.post_blind hp⟩
end
end Go.Proofs.Ytgeoffpcmkofkaa
/- The walk of hull's 'cut'. -/
namespace Go.Proofs.Ytgeoffpcmkofkaa
open Go.RowKit Fl
set_option maxRecDepth 100000

/-- The i-th part. -/
def partV (r0 off n i : Nat) : Value := .slice (some ⟨r0, off + i * 16, none⟩) (min 8 (n - 8 * i)) (min 8 (n - 8 * i))
def cutL (r0 off n k : Nat) : List Value := (List.range k).map (partV r0 off n)
theorem Try.info28 : (Try.prog.info? 28).map (fun i => (i.zero, i.size, i.bytes)) = some (some (.slice none 0 0), 1, 24) := by kernel_rfl
structure CutI (r0 off n : Nat) (w wr : World) (v : Value) (k : Nat) : Prop where
  new : New w wr
  own : wr.ownsRow w.heap.size 28 1 v k (cutL r0 off n k)
theorem cutL_succ (r0 off n k : Nat) : cutL r0 off n (k + 1) = cutL r0 off n k ++ [partV r0 off n k] := by simp [cutL, List.range_succ]
set_option maxHeartbeats 1600000 in
theorem cut_some (r0 off n cap : Nat) (w : World) (hn : n ≤ cap) (hs : n ≤ 1000000) :
    Calls Try.prog 90 #[.slice (some ⟨r0, off, none⟩) n cap] w fun e w' => ∃ v, e = .returned v ∧ Hid (CutI r0 off n w w' v ((n + 7) / 8)) := by
  obtain ⟨i0, hi0, hz0, hz1, hz2⟩ := info_parts Try.info28
  go_enter Try.func90, Try.ntmps90
  go_wp2_with fail
  go_loopw [3, 4] (fun v i wr => ∃ (k : Nat), i = .int .i64 ((8 * k : Nat) : Int) ∧ 8 * k < n + 8 ∧ Hid (CutI r0 off n w wr v k))
    (fun _ i _ => n + 8 - (intOf i).toNat)
  case atStart => exact ⟨0, rfl, by omega, ⟨New.refl _, World.ownsRow_nil _ _ _ _⟩⟩
  case round =>
    obtain ⟨k, rfl, hle, H⟩ := hrel
    by_cases hk : 8 * k < n
    · by_cases h8 : 8 * k + 8 ≤ n
      · have hw8 : IntKind.i64.wrap ((8 * k : Nat) + 8 : Int) = (8 * k : Nat) + 8 := by rw [IntKind.wrap_i64]; omega
        obtain ⟨vk, wk, k1, k2, k3, k4⟩ := run_append_own (P := Try.prog) (wr.alloc (.cells #[.slice (some ⟨r0, off + 8 * k * 2, none⟩) 8 8] 28)) w.heap.size 106 106 28 i0 _ 1 24 Try.underlying106 hi0 hz0 hz1 hz2 rfl (by omega) u3 k (cutL r0 off n k) (H.out.own.alloc _)
          ⟨wr.heap.size, 0, none⟩ 1 1 [.slice (some ⟨r0, off + 8 * k * 2, none⟩) 8 8] rfl (World.news_of_block (cs := #[.slice (some ⟨r0, off + 8 * k * 2, none⟩) 8 8]) (t := 28) (fr := (0, 0)) (heap_alloc_new wr _)) (by simp [Value.oneCell']) (by unfold maxLen; omega) (by omega) (by have := H.out.new.size; simp; omega)
        have R : Hid (CutI r0 off n w wk vk (k + 1)) := by
          have e : partV r0 off n k = .slice (some ⟨r0, off + 8 * k * 2, none⟩) (8) (8) := by
            unfold partV
            rw [show min 8 (n - 8 * k) = 8 by omega, show k * 16 = 8 * k * 2 by omega]
          refine ⟨(H.out.new.alloc' _).trans k3 fun g hg => ?_, by rw [cutL_succ, e]; exact k2⟩
          rcases Nat.lt_or_ge g w.heap.size with h1 | h1
          · exact absurd hg.symm (own_ne H.out.own h1)
          · exact h1
        clear k2 k3 k4
        go_wp2_with (first | (at_builtin; refine Go.Lib.wpList_append_run _ rfl _ _ 106 106 rfl _ _ rfl rfl vk wk k1 ?_) | go_in)
        go_roundw
        case rel => exact ⟨k + 1, by go_num, by omega, R⟩
        case measure => simp [intOf]; omega
      · have hlt : n < 8 * k + 8 := by omega
        obtain ⟨vk, wk, k1, k2, k3, k4⟩ := run_append_own (P := Try.prog) (wr.alloc (.cells #[.slice (some ⟨r0, off + 8 * k * 2, none⟩) (n - 8 * k) (n - 8 * k)] 28)) w.heap.size 106 106 28 i0 _ 1 24 Try.underlying106 hi0 hz0 hz1 hz2 rfl (by omega) u3 k (cutL r0 off n k) (H.out.own.alloc _)
          ⟨wr.heap.size, 0, none⟩ 1 1 [.slice (some ⟨r0, off + 8 * k * 2, none⟩) (n - 8 * k) (n - 8 * k)] rfl (World.news_of_block (cs := #[.slice (some ⟨r0, off + 8 * k * 2, none⟩) (n - 8 * k) (n - 8 * k)]) (t := 28) (fr := (0, 0)) (heap_alloc_new wr _)) (by simp [Value.oneCell']) (by unfold maxLen; omega) (by omega) (by have := H.out.new.size; simp; omega)
        have R : Hid (CutI r0 off n w wk vk (k + 1)) := by
          have e : partV r0 off n k = .slice (some ⟨r0, off + 8 * k * 2, none⟩) ((n - 8 * k)) ((n - 8 * k)) := by
            unfold partV
            rw [show min 8 (n - 8 * k) = (n - 8 * k) by omega, show k * 16 = 8 * k * 2 by omega]
          refine ⟨(H.out.new.alloc' _).trans k3 fun g hg => ?_, by rw [cutL_succ, e]; exact k2⟩
          rcases Nat.lt_or_ge g w.heap.size with h1 | h1
          · exact absurd hg.symm (own_ne H.out.own h1)
          · exact h1
        clear k2 k3 k4
        go_wp2_with (first | (at_builtin; refine Go.Lib.wpList_append_run _ rfl _ _ 106 106 rfl _ _ rfl rfl vk wk k1 ?_) | go_in)
        go_roundw
        case rel => exact ⟨k + 1, by go_num, by omega, R⟩
        case measure => simp [intOf]; omega
    · have hm : (n + 7) / 8 = k := by omega
      go_wp2_with fail
      go_ret
      exact ⟨u3, rfl, by rw [hm]; exact H⟩
end Go.Proofs.Ytgeoffpcmkofkaa
/- The corners of the parts, by goroutines: the whole call. -/
namespace Go.Proofs.Ytgeoffpcmkofkaa
open Go Go.Conc Go.RowKit
set_option maxRecDepth 100000

noncomputable def head71 : Code := match Try.f71.body with
  | some (.seq _ (.seq _ (.seq (.seq r _) _))) => r
  | _ => .skip
theorem fs90 : FSof fsI 90 := by decide
theorem New.same {w w' w2 : World} (h : New w w') (k : Same w' w2) (T : Nat → Question → Nat) (d : Nat) : New (mv w T d) (mv w2 T d) := ⟨k.os.trans h.os, rfl, k.output.trans h.output, by rw [show (mv w2 T d).heap = w2.heap from rfl, k.heap]; exact h.size, fun r hr hn => by rw [show (mv w2 T d).heap = w2.heap from rfl, k.heap]; exact h.block r hr hn⟩
/-- What is kept of old memory. -/
structure Kept (w w' : World) : Prop where
  os : w'.os = w.os
  output : w'.output = w.output
  size : w.heap.size ≤ w'.heap.size
  block : ∀ r, r < w.heap.size → w'.heap[r]? = w.heap[r]?
theorem Kept.refl (w : World) : Kept w w := ⟨rfl, rfl, Nat.le_refl _, fun _ _ => rfl⟩
theorem Kept.trans {w w1 w2 : World} (h : Kept w w1) (k : Kept w1 w2) : Kept w w2 := ⟨k.os.trans h.os, k.output.trans h.output, Nat.le_trans h.size k.size, fun r hr => (k.block r (Nat.lt_of_lt_of_le hr h.size)).trans (h.block r hr)⟩
theorem Kept.same {w w1 w2 : World} (h : Kept w w1) (k : Same w1 w2) : Kept w w2 := h.trans ⟨k.os, k.output, by rw [k.heap]; exact Nat.le_refl _, fun r _ => by rw [k.heap]⟩
theorem New.kept0 {w w1 w' : World} (h : New w1 w') (k : Same w w1) : Kept w w' := ⟨h.os.trans k.os, h.output.trans k.output, by rw [← k.heap]; exact h.size, fun r hr => by rw [← k.heap]; exact h.block r (by rw [k.heap]; exact hr) (by simp)⟩
/-- What cut leaves. -/
structure CutK (r0 off n : Nat) (w w' : World) (v : Value) (m : Nat) : Prop where
  kept : Kept w w'
  own : w'.ownsRow w.heap.size 28 1 v m (cutL r0 off n m)
theorem owns_same {w w1 : World} {N e size n : Nat} {v : Value} {xs : List Value} (h : w.ownsRow N e size v n xs) (k : Same w w1) : w1.ownsRow N e size v n xs := by
  refine ⟨h.1, h.2.imp id fun ⟨g, cap, cur, h1, h2, h3, h4⟩ => ⟨g, cap, cur, h1, h2, ?_, h4⟩⟩
  rw [k.heap]
  exact h3
theorem own_base {w : World} {N N' e size n : Nat} {v : Value} {xs : List Value} (hN : N ≤ N') (h : w.ownsRow N' e size v n xs) : w.ownsRow N e size v n xs := ⟨h.1, h.2.imp id fun ⟨g, cap, cur, h1, h2, h3⟩ => ⟨g, cap, cur, h1, Nat.le_trans hN h2, h3⟩⟩
/-- The row that is handed on. -/
structure Out71 (w w' : World) (v : Value) (pts : Pts) : Prop where
  kept : Kept w w'
  row : w'.ownsRow w.heap.size 23 2 v pts.length (flatP pts)
  ints : AllRow IsI w' v
/-- Where the call is about to return. -/
def Fin71 (x : Frame) (cs : List Frame) (w : World) (pts : Pts) (a : Goroutine) (w' : World) : Prop := ∃ tmps todo av, a = G { (base 71).at { tmps := tmps, defers := [] } todo with mode := .returning } (x :: cs) ∧ tmps.getD 2 undef = av ∧ Out71 w w' av pts
set_option maxHeartbeats 1000000 in
theorem A.parts {Post : Value → World → Prop} {r0 off n cap : Nat} {c : Array Value} {outs : Nat → Pts} {w : World} {x : Frame} {cs : List Frame} (hn : n ≤ 1000) (hcap : n ≤ cap) (hw : w.heap[r0]? = some (.cells c 23 (0, 0))) (hc : ∀ x ∈ c.toList, ∃ n, x = .int .i64 n) (hr : GN ≤ r0)
    (hC : ∀ i, i < (n + 7) / 8 → AroundC r0 (off + i * 16) (min 8 (n - 8 * i)) (min 8 (n - 8 * i)) c (outs i)) (hlen : (cat outs ((n + 7) / 8)).length ≤ 10000) (hl1 : ∀ i, (outs i).length ≤ 1000)
    (h : ∀ v w', Out71 w w' v (cat outs ((n + 7) / 8)) → A Try.prog Post (x.finish v) cs w') :
    A Try.prog Post (Frame.enter Try.prog 71 #[.slice (some ⟨r0, off, none⟩) n cap] .normal) (x :: cs) w := by
  have hlt : r0 < w.heap.size := (Array.getElem?_eq_some_iff.1 hw).1
  rw [Conc.enter_at _ Try.func71 (c := Try.f71.body.getD .skip) rfl]
  walk_nrmf Try.f71
  refine .ctl (fun _ => stepG_seq) ?_
  refine .ctl (fun _ => stepG_region) ?_
  walk_nrm
  refine .mov (.slice none 0 0) rfl rfl (.inr rfl) rfl (by decide) ?_
  walk_nrm
  refine .ctl (fun _ => stepG_region_end) ?_
  refine .ctl (fun _ => stepG_seq) ?_
  refine .ctl (fun _ => stepG_region) ?_
  walk_nrm
  refine .mov (.slice none 0 0) rfl rfl (.inr rfl) rfl (by decide) ?_
  walk_nrm
  refine .ctl (fun _ => stepG_region_end) ?_
  refine .ctl (fun _ => stepG_seq) ?_
  refine .ctl (fun _ => stepG_seq) ?_
  refine .ctl (fun _ => stepG_region) ?_
  walk_nrm
  refine .mov (.slice (some ⟨r0, off, none⟩) n cap) rfl rfl (.inl rfl) rfl (by decide) ?_
  walk_nrm
  refine .ent (f := 90) (xs := #[.slice (some ⟨r0, off, none⟩) n cap]) rfl rfl (by decide) (fun w' => by go_simp) (fun w' => by simp [go_sem, callFunc, Try.func90, Try.f90]) ?_
  refine A.call bodP noEarly fs90 Try.func90 (c := Try.f90.body.getD .skip) rfl (Q := fun v w' => CutK r0 off n w w' v ((n + 7) / 8)) (fun v w1 w2 k q => ⟨q.kept.same k, owns_same q.own k⟩) (fun w' hs => (cut_some r0 off n cap w' hcap (by omega)).mono ?_) fun pcv w1 hq => ?_
  · rintro e w2 ⟨v, rfl, H⟩
    refine ⟨v, rfl, H.out.new.kept0 hs, ?_⟩
    have := H.out.own
    rw [show w'.heap.size = w.heap.size by rw [hs.heap]] at this
    exact this
  rw [Frame.finish_at]
  walk_nrm
  -- the others are started
  have hsz1 := hq.kept.size
  have hrow1 : w1.heap[r0]? = some (.cells c 23 (0, 0)) := by rw [hq.kept.block r0 hlt]; exact hw
  refine A.of_MB (Fin := Fin71 x cs w (cat outs ((n + 7) / 8))) (fun w2 hs => ?_) fun a w' hf => ?_
  · have hpcv : ∃ b cap, pcv = .slice b ((n + 7) / 8) cap := by
      rcases hq.own.2 with ⟨e, e2⟩ | ⟨g, cap, cur, e1, _⟩
      · exact ⟨none, 0, by rw [e, e2]⟩
      · exact ⟨_, cap, e1⟩
    refine .val (.int .i64 ((n + 7) / 8 : Nat)) rfl rfl (by decide) (fun w3 _ => ?_) (fun w3 _ => ?_) ?_
    · obtain ⟨b, cap, rfl⟩ := hpcv
      go_simp
    · obtain ⟨b, cap, rfl⟩ := hpcv
      simp [go_sem]
    walk_nrm
    refine .mov (.int .i64 0) rfl rfl (.inl rfl) rfl (by decide) ?_
    walk_nrm
    refine .ctl rfl rfl (fun _ => stepG_region_end) ?_
    refine .ctl rfl rfl (fun _ => stepG_block) ?_
    refine .ctl rfl rfl (fun _ => stepG_loop) ?_
    have hs2 : w2.heap.size = w1.heap.size := by rw [hs.heap]
    refine start71 (N := w1.heap.size) (ws := w2) (outs := outs) (parts := partV r0 off n) (m := (n + 7) / 8) (by omega) hlen (fun hm => ?_) (fun i _ => ⟨_, _, _, rfl⟩) (fun i hi ch w3 hold hle => ?_) (fun O w3 pv cl av tmps todo hM ht => ⟨tmps, todo, av, rfl, ht, hq.kept.trans ⟨hM.m0.os.trans hs.os, hM.m0.output.trans hs.output, hM.m0.size, fun r hr => by rw [hM.m0.old r hr, hs.heap]⟩, own_base hsz1 hM.a, hM.ai⟩) ((n + 7) / 8) 0 (by omega) _ w2 _ [] _ _ _ _ _ _ _ _ _ _ _ _ _ _ rfl ?_ ?_ ?_
    · rcases hq.own.2 with ⟨_, e2⟩ | ⟨g, cap', cur, e1, e2, e3, e4, e5, e6, e7⟩
      · omega
      · refine ⟨g, cap', e1, (Array.getElem?_eq_some_iff.1 e3).1, fun i hi => ?_⟩
        have h1 : cur.toList[i]? = some (partV r0 off n i) := by
          have : (cur.toList.take ((n + 7) / 8 * 1))[i]? = some (partV r0 off n i) := by
            rw [e7]
            simp [cutL, hi]
          rw [List.getElem?_take_of_lt (by omega)] at this
          exact this
        simp only [World.cell?, hs.heap, e3]
        simpa using h1
    · refine kid71 (hC i hi) ?_ hc ?_ hr (by omega) (hl1 i)
      · rw [hold r0 (by omega), hs.heap]
        exact hrow1
      · omega
    · exact ⟨⟨fun r h => h.elim, fun _ _ => rfl, by rw [hs2]; exact Nat.le_refl _, rfl, rfl⟩, ⟨rfl, .inl ⟨rfl, rfl⟩⟩, (fun g hg => by cases hg), ⟨rfl, .inl ⟨rfl, rfl⟩⟩, (fun g hg => by cases hg), (fun g hg => by cases hg), (fun g hg => by cases hg)⟩
    · exact ⟨(fun i c _ hc => by simp at hc), (fun c o hc => by cases hc), (fun i i' c hc => by simp at hc)⟩
    · exact fun i c hc => by simp at hc
  · obtain ⟨tmps, todo, av, rfl, ht, hO⟩ := hf
    refine ⟨_, _, rfl, ?_⟩
    refine .ctl (fr1 := x.finish av) (cs1 := cs) (fun w3 => ?_) (h av w' hO)
    refine stepG_leave rfl rfl Try.func71 ?_ ?_
    · subst ht
      simp [results, Try.f71]
    · simp [results, Try.f71]
end Go.Proofs.Ytgeoffpcmkofkaa
/- A list of points, as an argument, opened; and kept. -/
namespace Go.Proofs.Ytgeoffpcmkofkaa
open Go.ChangeShapes Go.WideShapes Go.ChangeAt Go.RowKit Go.Joins Go.Deep Fl
set_option maxRecDepth 100000

theorem listLaid : laidOutB Try.prog = true := by kernel_rfl
theorem listBytes : Try.prog.bytesOf 23 = 16 := by kernel_rfl

/-- A list of points, opened. -/
theorem open_list {H : Type} {enc : TypeId × Value → H} {W : World} {b0 : Nat} {r : Go.Reach} {v : Value} {d : DataW H} {p : List MemPlace} (hv : Value.okWide Try.prog W r b0 28 v) (h : DataW.Trod enc Try.prog W 0 (fun _ => true) true 28 v d p) :
    (v = .slice none 0 0 ∧ d = .nil) ∨ ∃ (a : Addr) (cap : Nat) (l : Pts) (elems spare : List (DataW H)), v = .slice (some a) l.length cap ∧ l.length ≤ cap ∧ PolyAt W (some a) l ∧ In64 l ∧ d = .slice elems spare ∧ elems.length + spare.length = cap := by
  obtain ⟨a0, len, cap, rfl⟩ := okWide_slice Try.underlying28 hv
  obtain ⟨fuel, hf⟩ := h
  rcases open_slice_pairs Try.underlying28 Try.underlying23 Try.cells23 rfl rfl (by kernel_rfl) (by kernel_rfl) hf with ⟨hcs, hx⟩ | ⟨a, len', cap', m, n, V0, V1, D0, D1, P0, P1, hcs, _, hl, hm, hmm, hx, hcell⟩
  · simp [Value.cells] at hcs
    obtain ⟨rfl, rfl, rfl⟩ := hcs
    simp only [Prod.mk.injEq] at hx
    exact Or.inl ⟨rfl, hx.1⟩
  · simp [Value.cells] at hcs
    obtain ⟨rfl, rfl, rfl⟩ := hcs
    simp only [if_true] at hmm
    subst hmm
    simp only [Prod.mk.injEq] at hx
    have each : ∀ i, i < m → ∃ q : Int × Int, W.cell? (a.add (i * 2)) = some (.int .i64 q.1) ∧ W.cell? (a.add (i * 2 + 1)) = some (.int .i64 q.2) ∧ (Lit.int .i64 q.1).wf = true ∧ (Lit.int .i64 q.2).wf = true := by
      intro i hi
      obtain ⟨e0, e1, e2, e3⟩ := hcell i hi
      obtain ⟨x, f0, _, wx⟩ := DataW.trod_int Try.underlying3 e2
      obtain ⟨y, f1, _, wy⟩ := DataW.trod_int Try.underlying3 e3
      refine ⟨(x, y), ?_, ?_, wx, wy⟩
      · rw [e0]; simpa using f0
      · rw [e1]; simpa using f1
    obtain ⟨q, hq⟩ := choose_lt each
    refine Or.inr ⟨a, m, (List.range len).map q, _, _, by simp, by simpa using hl, ?_, ?_, hx.1, by simp; omega⟩
    · intro h0
      have hlen : 0 < len := by simpa using h0
      obtain ⟨b, off, spot⟩ := a
      have hspot : spot = none := by simpa [Addr.add] using World.cell?_spot (hq 0 (by omega)).1
      subst hspot
      refine ⟨b, off, rfl, ?_, World.block_lt_of_cell? W _ (hq 0 (by omega)).1⟩
      intro i hi
      have hi' : i < len := by simpa using hi
      have := hq i (by omega)
      rw [add_plain, add_plain] at this
      simp only [List.getElem_map, List.getElem_range]
      exact ⟨this.1, by have := this.2.1; rwa [← Nat.add_assoc] at this⟩
    · intro p hp
      obtain ⟨i, hi, rfl⟩ := List.mem_map.1 hp
      have := hq i (by have := List.mem_range.1 hi; omega)
      have h1 := bounds_i64 this.2.2.1
      have h2 := bounds_i64 this.2.2.2
      omega


theorem Kept.frame {W w' : World} (h : Kept W w') (may : MemPlace → Prop) : W.keptBut w' may := by
  refine ⟨h.os, h.output, fun i hi => ?_⟩
  rw [h.block i hi]
  split <;> simp_all
theorem Kept.sameAt {W w' : World} (h : Kept W w') {p : MemPlace} (hp : p.block < W.heap.size) : W.sameAt w' p := by
  cases p with
  | cell b o => exact World.cell?_of_block (w := W) (h.block b hp)
  | map b => exact h.block b hp
theorem Kept.trod {H : Type} {enc : TypeId × Value → H} {W W' : World} {v : Value} {d : DataW H} {ps : List MemPlace} (h : DataW.Trod enc Try.prog W 0 (fun _ => true) true 28 v d ps) (hb : Kept W W') (hlt : ∀ x ∈ ps, x.block < W.heap.size) :
    DataW.Trod enc Try.prog W' 0 (fun b => decide (b < W.heap.size)) true 28 v d ps :=
  WideElems.Trod_stays listLaid (by kernel_rfl) (of_decide_eq_true (by kernel_rfl)) h (fun x hx => hb.sameAt (hlt x hx)) (fun x hx => by simpa using hlt x hx)
end Go.Proofs.Ytgeoffpcmkofkaa
/- The walks of package side: 'newExactRow', 'exactTerm'. -/
namespace Go.Proofs.Ytgeoffpcmkofkaa
open Go.RowKit Fl
set_option maxRecDepth 100000

/-- A row of the determinant, not rounded, in memory. -/
structure ERow (w : World) (X Y : Int) (g1 g2 g3 c3 : Nat) (x y s : Ws) : Prop where
  nx : Nm w g1 2 x X 55 2
  ny : Nm w g2 2 y Y 55 2
  ns : Nm w g3 c3 s (X * X + Y * Y) 113 16

theorem ERow.kept {w w' : World} {X Y : Int} {g1 g2 g3 c3 : Nat} {x y s : Ws} (h : ERow w X Y g1 g2 g3 c3 x y s) (hn : New w w') : ERow w' X Y g1 g2 g3 c3 x y s :=
  ⟨h.nx.kept hn, h.ny.kept hn, h.ns.kept hn⟩

/-- A block that is written lies apart from an expansion. -/
theorem Lst.set3 {w : World} {g cap b : Nat} {ws : Ws} (h : Lst w g cap ws) (hb : g ≠ b) (x y z : Value) : Lst (((w.setCell ⟨b, 0, none⟩ x).setCell ⟨b, 1, none⟩ y).setCell ⟨b, 2, none⟩ z) g cap ws := by
  obtain ⟨cur, h1, h2⟩ := h.row
  refine ⟨⟨cur, ?_, h2⟩, h.words, h.ex, h.small⟩
  rw [heap_setCell_other _ ⟨b, 2, none⟩ g z hb, heap_setCell_other _ ⟨b, 1, none⟩ g y hb, heap_setCell_other _ ⟨b, 0, none⟩ g x hb]
  exact h1

theorem Nm.set3 {w : World} {g cap b : Nat} {ws : Ws} {v : Int} {m n : Nat} (h : Nm w g cap ws v m n) (hb : g ≠ b) (x y z : Value) : Nm (((w.setCell ⟨b, 0, none⟩ x).setCell ⟨b, 1, none⟩ y).setCell ⟨b, 2, none⟩ z) g cap ws v m n :=
  ⟨h.lst.set3 hb x y z, h.tot, h.mass, h.len⟩

/-- The block of an expansion is none of another type. -/
theorem Lst.ne_block {w : World} {g cap b : Nat} {ws : Ws} {cs : Array Value} {t : TypeId} (h : Lst w g cap ws) (hb : w.heap[b]? = some (.cells cs t (0, 0))) (ht : t ≠ 81) : g ≠ b := by
  rintro rfl
  obtain ⟨cur, h1, _⟩ := h.row
  rw [hb] at h1
  simp at h1
  exact ht h1.2

set_option maxHeartbeats 800000 in
theorem newExactRow_any (px py dx dy : Int) (w : World) (h1 : Cd px) (h2 : Cd py) (h3 : Cd dx) (h4 : Cd dy) :
    Calls Try.prog 81 #[.agg #[.int .i64 px, .int .i64 py], .agg #[.int .i64 dx, .int .i64 dy]] w fun e w' =>
      ∃ (g1 g2 g3 c3 : Nat) (x y s : Ws), e = .returned (.agg #[.slice (some ⟨g1, 0, none⟩) x.length 2, .slice (some ⟨g2, 0, none⟩) y.length 2, .slice (some ⟨g3, 0, none⟩) s.length c3]) ∧ Hid (New w w' ∧ ERow w' (px - dx) (py - dy) g1 g2 g3 c3 x y s) := by
  go_enter Try.func81, Try.ntmps81
  go_wp2_with fail
  refine (exactApart_any px py dx dy _ h1 h2 h3 h4).mono ?_
  rintro e w1 ⟨g1, g2, x, y, rfl, H1⟩
  go_wp2_with fail
  refine (times_nm H1.out.1 H1.out.1 (by omega) (by omega) (by omega)).mono ?_
  rintro e w2 ⟨g3, c3, p, rfl, H2⟩
  go_wp2_with fail
  refine (times_nm (H1.out.2.1.kept H2.out.2.2) (H1.out.2.1.kept H2.out.2.2) (by omega) (by omega) (by omega)).mono ?_
  rintro e w3 ⟨g4, c4, q, rfl, H3⟩
  go_wp2_with fail
  refine (plus_nm (H2.out.1.kept H3.out.2.2) H3.out.1 (by omega) (by omega) (by omega)).mono ?_
  rintro e w4 ⟨g5, c5, s, rfl, H4⟩
  have HN : Hid (New (((w.alloc (.cells #[.int .i64 px, .int .i64 py] 23)).alloc (.cells #[.int .i64 dx, .int .i64 dy] 23)).alloc (.cells #[.slice none 0 0, .slice none 0 0, .slice none 0 0] 97)) w4) := ((H1.out.2.2.2.2.trans' H2.out.2.2).trans' H3.out.2.2).trans' H4.out.2.2
  have hR : w4.heap[w.heap.size + 1 + 1]? = some (.cells #[.slice none 0 0, .slice none 0 0, .slice none 0 0] 97 (0, 0)) := by
    rw [HN.out.block _ (by simp) (by simp)]
    have := _root_.Go.heap_alloc_new ((w.alloc (.cells #[.int .i64 px, .int .i64 py] 23)).alloc (.cells #[.int .i64 dx, .int .i64 dy] 23)) (.cells #[.slice none 0 0, .slice none 0 0, .slice none 0 0] 97)
    simpa using this
  have HR : Hid (w4.heap[w.heap.size + 1 + 1]? = some (.cells #[.slice none 0 0, .slice none 0 0, .slice none 0 0] 97 (0, 0))) := hR
  have q0 : w4.cell? ⟨w.heap.size + 1 + 1, 0, none⟩ = some (.slice none 0 0) := by simp [World.cell?, hR]
  have q1 : w4.cell? ⟨w.heap.size + 1 + 1, 1, none⟩ = some (.slice none 0 0) := by simp [World.cell?, hR]
  have q2 : w4.cell? ⟨w.heap.size + 1 + 1, 2, none⟩ = some (.slice none 0 0) := by simp [World.cell?, hR]
  have f0 : w4.frozen? ⟨w.heap.size + 1 + 1, 0, none⟩ = false := by simp [World.frozen?, hR]
  have f1 : w4.frozen? ⟨w.heap.size + 1 + 1, 1, none⟩ = false := by simp [World.frozen?, hR]
  have f2 : w4.frozen? ⟨w.heap.size + 1 + 1, 2, none⟩ = false := by simp [World.frozen?, hR]
  clear hR
  go_wp2_with fail
  refine bodyPost_ret (v := .agg #[.slice (some ⟨g1, 0, none⟩) x.length 2, .slice (some ⟨g2, 0, none⟩) y.length 2, .slice (some ⟨g5, 0, none⟩) s.length c5]) (by simp [results, Try.results81, go_sem, q0, q1, q2]) rfl ?_
  have kx := ((H1.out.1.kept H2.out.2.2).kept H3.out.2.2).kept H4.out.2.2
  have ky := ((H1.out.2.1.kept H2.out.2.2).kept H3.out.2.2).kept H4.out.2.2
  refine ⟨g1, g2, g5, c5, x, y, s, rfl, ?_, kx.set3 (kx.lst.ne_block HR.out (by decide)) _ _ _, ky.set3 (ky.lst.ne_block HR.out (by decide)) _ _ _, H4.out.1.set3 (H4.out.1.lst.ne_block HR.out (by decide)) _ _ _⟩
  exact Below.new' ((((New.below' ((((New.alloc w _).alloc' _).alloc' _).trans' HN.out)).setCell (p := ⟨w.heap.size + 1 + 1, 0, none⟩) (by simp <;> omega) _).setCell (p := ⟨w.heap.size + 1 + 1, 1, none⟩) (by simp <;> omega) _).setCell (p := ⟨w.heap.size + 1 + 1, 2, none⟩) (by simp <;> omega) _)

theorem five_keep {W w' : World} {g : Nat} {p q r s t : Value} (hn : New W w') (hs : g + 1 + 1 < W.heap.size ∧ W.cell? ⟨g, 2, none⟩ = some p ∧ W.cell? ⟨g + 1, 0, none⟩ = some q ∧ W.cell? ⟨g + 1, 1, none⟩ = some r ∧ W.cell? ⟨g + 1 + 1, 0, none⟩ = some s ∧ W.cell? ⟨g + 1 + 1, 1, none⟩ = some t) :
    g + 1 + 1 < w'.heap.size ∧ w'.cell? ⟨g, 2, none⟩ = some p ∧ w'.cell? ⟨g + 1, 0, none⟩ = some q ∧ w'.cell? ⟨g + 1, 1, none⟩ = some r ∧ w'.cell? ⟨g + 1 + 1, 0, none⟩ = some s ∧ w'.cell? ⟨g + 1 + 1, 1, none⟩ = some t := by
  obtain ⟨h0, h1, h2, h3, h4, h5⟩ := hs
  have := hn.size
  refine ⟨by omega, ?_, ?_, ?_, ?_, ?_⟩
  all_goals (rw [hn.rule _ _ (by omega)]; assumption)

set_option maxHeartbeats 1600000 in
theorem exactTerm_any {A B C D X Y : Int} {ux uy us cs vx vy vs dv wx wy ws ew : Nat} {k l s p q t m n o : Ws} (w : World) (hu : ERow w X Y ux uy us cs k l s) (hv : ERow w A B vx vy vs dv p q t) (hw : ERow w C D wx wy ws ew m n o) :
    Calls Try.prog 82 #[.agg #[.slice (some ⟨ux, 0, none⟩) k.length 2, .slice (some ⟨uy, 0, none⟩) l.length 2, .slice (some ⟨us, 0, none⟩) s.length cs], .agg #[.slice (some ⟨vx, 0, none⟩) p.length 2, .slice (some ⟨vy, 0, none⟩) q.length 2, .slice (some ⟨vs, 0, none⟩) t.length dv], .agg #[.slice (some ⟨wx, 0, none⟩) m.length 2, .slice (some ⟨wy, 0, none⟩) n.length 2, .slice (some ⟨ws, 0, none⟩) o.length ew]] w fun e w' =>
      ∃ (g c : Nat) (z : Ws), e = .returned (.slice (some ⟨g, 0, none⟩) z.length c) ∧ Hid (New w w' ∧ Nm w' g c z ((X * X + Y * Y) * (A * D - B * C)) 227 512) := by
  obtain ⟨W, hW⟩ : ∃ W, W = ((w.alloc (.cells #[.slice (some ⟨ux, 0, none⟩) k.length 2, .slice (some ⟨uy, 0, none⟩) l.length 2, .slice (some ⟨us, 0, none⟩) s.length cs] 97)).alloc (.cells #[.slice (some ⟨vx, 0, none⟩) p.length 2, .slice (some ⟨vy, 0, none⟩) q.length 2, .slice (some ⟨vs, 0, none⟩) t.length dv] 97)).alloc (.cells #[.slice (some ⟨wx, 0, none⟩) m.length 2, .slice (some ⟨wy, 0, none⟩) n.length 2, .slice (some ⟨ws, 0, none⟩) o.length ew] 97) := ⟨_, rfl⟩
  have HW : Hid (New w W.drew) := by rw [hW]; exact (((New.alloc _ _).alloc' _).alloc' _).drewN 1
  have hS : w.heap.size + 1 + 1 < W.heap.size ∧ W.cell? ⟨w.heap.size, 2, none⟩ = some (.slice (some ⟨us, 0, none⟩) s.length cs) ∧ W.cell? ⟨w.heap.size + 1, 0, none⟩ = some (.slice (some ⟨vx, 0, none⟩) p.length 2) ∧ W.cell? ⟨w.heap.size + 1, 1, none⟩ = some (.slice (some ⟨vy, 0, none⟩) q.length 2) ∧ W.cell? ⟨w.heap.size + 1 + 1, 0, none⟩ = some (.slice (some ⟨wx, 0, none⟩) m.length 2) ∧ W.cell? ⟨w.heap.size + 1 + 1, 1, none⟩ = some (.slice (some ⟨wy, 0, none⟩) n.length 2) := by
    rw [hW]
    refine ⟨by simp, ?_, ?_, ?_, ?_, ?_⟩ <;> go_simp
  go_enter Try.func82, Try.ntmps82
  go_wp2_with fail
  rw [← hW]
  clear hW
  go_region_held3 (fun w' => w.heap.size + 1 + 1 < w'.heap.size ∧ w'.cell? ⟨w.heap.size, 2, none⟩ = some (.slice (some ⟨us, 0, none⟩) s.length cs) ∧ w'.cell? ⟨w.heap.size + 1, 0, none⟩ = some (.slice (some ⟨vx, 0, none⟩) p.length 2) ∧ w'.cell? ⟨w.heap.size + 1, 1, none⟩ = some (.slice (some ⟨vy, 0, none⟩) q.length 2) ∧ w'.cell? ⟨w.heap.size + 1 + 1, 0, none⟩ = some (.slice (some ⟨wx, 0, none⟩) m.length 2) ∧ w'.cell? ⟨w.heap.size + 1 + 1, 1, none⟩ = some (.slice (some ⟨wy, 0, none⟩) n.length 2))
    (first | exact hS | exact five_keep H4.out.2.2 (by assumption) | exact five_keep H3.out.2.2 (by assumption) | exact five_keep H2.out.2.2 (by assumption) | exact five_keep H1.out.2.2 (by assumption) | go_keep)
    (first
      | (go_at_call_of 76 vx; refine (times_nm (hv.nx.kept HW.out) (hw.ny.kept HW.out) (by omega) (by omega) (by omega)).mono ?_; rintro e w1 ⟨g1, c1, z1, rfl, H1⟩)
      | (go_at_call_of 76 vy; refine (times_nm ((hv.ny.kept HW.out).kept H1.out.2.2) ((hw.nx.kept HW.out).kept H1.out.2.2) (by omega) (by omega) (by omega)).mono ?_; rintro e w2 ⟨g2, c2, z2, rfl, H2⟩)
      | (go_at_call 77; refine (minus_nm (H1.out.1.kept H2.out.2.2) H2.out.1 (by omega) (by omega) (by omega)).mono ?_; rintro e w3 ⟨g3, c3, z3, rfl, H3⟩)
      | (go_at_call_of 76 us; refine (times_nm ((((hu.ns.kept HW.out).kept H1.out.2.2).kept H2.out.2.2).kept H3.out.2.2) H3.out.1 (by omega) (by omega) (by omega)).mono ?_; rintro e w4 ⟨g4, c4, z4, rfl, H4⟩))
  go_wp2_with fail
  go_ret
  exact ⟨g4, c4, z4, rfl, (((HW.out.trans' H1.out.2.2).trans' H2.out.2.2).trans' H3.out.2.2).trans' H4.out.2.2, H4.out.1⟩

end Go.Proofs.Ytgeoffpcmkofkaa
/- A region that draws its order, by an invariant: each operation that may come up keeps it. -/
namespace Go.Proofs.Ytgeoffpcmkofkaa
open Go.RowKit
set_option maxRecDepth 100000

section
variable {P : Program} {ops : Array Oper} {Q : Exit → Act → World → Prop} {md : Region.Mode}

/-- An operation may come up: it has not, and what it waits for has. -/
structure Rdy (md : Region.Mode) (listed : Array Bool) (i : Nat) (o : Oper) : Prop where
  mine : listed.getD i true = false
  ahead : ∀ e ∈ o.after, Region.binds md e = true → listed.getD e.on false = true

theorem ready_iff {listed : Array Bool} {i : Nat} (h : i ∈ Region.ready md ops listed) : ∃ o, ops[i]? = some o ∧ i < ops.size ∧ Rdy md listed i o := by
  unfold Region.ready at h
  rw [List.mem_filter] at h
  obtain ⟨h1, h2⟩ := h
  have hi : i < ops.size := by simpa using h1
  rw [Bool.and_eq_true] at h2
  refine ⟨ops[i], Array.getElem?_eq_getElem hi, hi, by simpa using h2.1, ?_⟩
  have h3 := h2.2
  rw [Array.getElem?_eq_getElem hi] at h3
  simp only [Option.map_some, Option.getD_some] at h3
  rw [Array.all_eq_true_iff_forall_mem] at h3
  intro e he hb
  have := h3 e he
  rw [hb] at this
  simpa using this

theorem ready_of {listed : Array Bool} {i : Nat} {o : Oper} (ho : ops[i]? = some o) (h : Rdy md listed i o) : i ∈ Region.ready md ops listed := by
  unfold Region.ready
  rw [List.mem_filter]
  have hi : i < ops.size := (Array.getElem?_eq_some_iff.1 ho).1
  refine ⟨by simpa using hi, ?_⟩
  rw [Bool.and_eq_true, ho]
  refine ⟨by simp [h.mine], ?_⟩
  simp only [Option.map_some, Option.getD_some]
  rw [Array.all_eq_true_iff_forall_mem]
  intro e he
  by_cases hb : Region.binds md e = true
  · rw [h.ahead e he hb]; simp
  · simp [Bool.eq_false_iff.2 hb]

theorem count_set_true : ∀ (l : List Bool) (i : Nat) (h : i < l.length), l[i] = false → l.count false = (l.set i true).count false + 1
  | [], i, h, _ => absurd h (by simp)
  | x :: l, 0, _, hx => by
    have hx' : x = false := hx
    subst hx'
    simp
  | x :: l, i + 1, h, hx => by
    have := count_set_true l i (by simpa using h) hx
    simp only [List.set_cons_succ, List.count_cons, this]
    omega

def left (listed : Array Bool) : Nat := listed.toList.count false

theorem left_set {listed : Array Bool} {i : Nat} (h : listed.getD i true = false) : left listed = left (listed.setIfInBounds i true) + 1 := by
  have hi : i < listed.size := by
    rcases Nat.lt_or_ge i listed.size with h1 | h1
    · exact h1
    · simp [Array.getD, Nat.not_lt.2 h1] at h
  have hv : listed.toList[i]'(by simpa using hi) = false := by simpa [Array.getD, hi] using h
  unfold left
  rw [Array.toList_setIfInBounds]
  exact count_set_true _ i (by simpa using hi) hv

/-- All have come up where none may. -/
theorem all_listed {listed : Array Bool} (hs : listed.size = ops.size) (hac : ∀ (i : Nat) (o : Oper), ops[i]? = some o → ∀ e ∈ o.after, Region.binds md e = true → e.on < i) (h : Region.ready md ops listed = []) : ∀ i, i < ops.size → listed.getD i false = true := by
  intro i
  induction i using Nat.strongRecOn with
  | _ i ih =>
    intro hi
    rcases Bool.eq_false_or_eq_true (listed.getD i false) with h1 | h1
    · exact h1
    · exfalso
      have hm : listed.getD i true = false := by simpa [Array.getD, hs, hi] using h1
      have : i ∈ Region.ready md ops listed := ready_of (Array.getElem?_eq_getElem hi) ⟨hm, fun e he hb => ih e.on (hac i _ (Array.getElem?_eq_getElem hi) e he hb) (Nat.lt_trans (hac i _ (Array.getElem?_eq_getElem hi) e he hb) hi)⟩
      rw [h] at this
      simp at this

theorem wpAny_inv (I : Array Bool → Act → World → Prop) (hac : ∀ (i : Nat) (o : Oper), ops[i]? = some o → ∀ e ∈ o.after, Region.binds md e = true → e.on < i) (hg : ∀ (i : Nat) (o : Oper), ops[i]? = some o → o.guard = none)
    (step : ∀ listed a w i o, I listed a w → ops[i]? = some o → Rdy md listed i o → o.wp P a w (fun a' w' => I (listed.setIfInBounds i true) a' w') Q)
    (fin : ∀ listed a w, I listed a w → (∀ i, i < ops.size → listed.getD i false = true) → Q .normal a w) :
    ∀ fuel listed a w, listed.size = ops.size → left listed = fuel → I listed a w → wpAny P md ops Q fuel listed a w := by
  intro fuel
  induction fuel with
  | zero =>
    intro listed a w hs hl hI
    have hr : Region.ready md ops listed = [] := by
      rw [List.eq_nil_iff_forall_not_mem]
      intro i hi
      obtain ⟨o, ho, hlt, hrd⟩ := ready_iff hi
      have := left_set hrd.mine
      omega
    exact ⟨hr, fin listed a w hI (all_listed hs hac hr)⟩
  | succ fuel ih =>
    intro listed a w hs hl hI
    refine ⟨fun hr => fin listed a w hI (all_listed hs hac hr), fun i hi => ?_⟩
    obtain ⟨o, ho, hlt, hrd⟩ := ready_iff hi
    have hwant : Region.wanted o (yielded ops a.tmps) = true := by simp [Region.wanted, hg i o ho]
    unfold wpOp
    rw [ho]
    simp only [hwant, if_true]
    left
    refine Oper.wp_mono (fun a' w' h => ?_) (step listed a w i o hI ho hrd)
    exact ih _ a' w' (by simpa using hs) (by have := left_set hrd.mine; omega) h

/-- A region that draws, by an invariant. -/
theorem wp_region_inv {id : Nat} {a : Act} {w : World} (hm : P.follows .mixedOrders = true) (I : Array Bool → Act → World → Prop) (hac : ∀ (i : Nat) (o : Oper), ops[i]? = some o → ∀ e ∈ o.after, Region.binds .any e = true → e.on < i) (hg : ∀ (i : Nat) (o : Oper), ops[i]? = some o → o.guard = none)
    (start : I (Array.replicate ops.size false) a w.drew)
    (step : ∀ listed a w i o, I listed a w → ops[i]? = some o → Rdy .any listed i o → o.wp P a w (fun a' w' => I (listed.setIfInBounds i true) a' w') Q)
    (fin : ∀ listed a w, I listed a w → (∀ i, i < ops.size → listed.getD i false = true) → Q .normal a w) : (Code.region id ops true).wp P Q a w :=
  wp_region_any hm (wpAny_inv I hac hg step fin _ _ a _ (by simp) (by simp [left]) start)
end

end Go.Proofs.Ytgeoffpcmkofkaa
/- The orders by which is sorted: of points, of directed sides, of triangles; worlds that have but grown. -/
namespace Go.Proofs.Ytgeoffpcmkofkaa
open Go.RowKit Fl Go.Sort
set_option maxRecDepth 100000
attribute [local go_sem ↓] Go.wp_at_zero Go.wp_at_succ

/-- Nothing but draws and new blocks. -/
def Gr (w w' : World) : Prop := ∃ q os, w' = grow (w.drewN q) os
theorem Gr.refl (w : World) : Gr w w := ⟨0, #[], by simp [World.drewN]⟩
theorem Gr.al {w w' : World} (h : Gr w w') (o : Obj) : Gr w (w'.alloc o) := by
  obtain ⟨q, os, rfl⟩ := h
  exact ⟨q, os.push o, by simp [grow, World.alloc]⟩
theorem Gr.dr {w w' : World} (h : Gr w w') : Gr w w'.drew := by
  obtain ⟨q, os, rfl⟩ := h
  exact ⟨q + 1, os, by simp [grow, World.drewN, World.drew]; omega⟩
theorem Gr.trans {w w' w'' : World} (h : Gr w w') (h' : Gr w' w'') : Gr w w'' := by
  obtain ⟨q, os, rfl⟩ := h
  obtain ⟨q', os', rfl⟩ := h'
  exact ⟨q + q', os ++ os', by simp [grow, World.drewN, Array.append_assoc]; omega⟩
theorem Gr.new {w w' : World} (h : Gr w w') : New w w' := by
  obtain ⟨q, os, rfl⟩ := h
  exact ⟨rfl, rfl, rfl, by simp [grow, World.drewN], fun k hk _ => by simp [grow, World.drewN, Array.getElem?_append_left hk]⟩

set_option maxHeartbeats 800000 in
theorem compare_gr (ax ay bx by' : Int) (w : World) :
    Calls Try.prog 85 #[.agg #[.int .i64 ax, .int .i64 ay], .agg #[.int .i64 bx, .int .i64 by']] w fun e w' => e = .returned (.int .i64 (cmpP (ax, ay) (bx, by'))) ∧ Hid (Gr w w') := by
  go_enter Try.func85, Try.ntmps85
  go_wp2_with fail
  obtain ⟨W, hW⟩ : ∃ W, W = (w.alloc (.cells #[.int .i64 ax, .int .i64 ay] 23)).alloc (.cells #[.int .i64 bx, .int .i64 by'] 23) := ⟨_, rfl⟩
  have HW : Hid (Gr w W ∧ W.heap.size = w.heap.size + 2) := by rw [hW]; exact ⟨((Gr.refl w).al _).al _, by simp⟩
  have a0 : W.cell? ⟨w.heap.size, 0, none⟩ = some (.int .i64 ax) := by rw [hW]; go_simp
  have a1 : W.cell? ⟨w.heap.size, 1, none⟩ = some (.int .i64 ay) := by rw [hW]; go_simp
  have b0 : W.cell? ⟨w.heap.size + 1, 0, none⟩ = some (.int .i64 bx) := by rw [hW]; go_simp
  have b1 : W.cell? ⟨w.heap.size + 1, 1, none⟩ = some (.int .i64 by') := by rw [hW]; go_simp
  rw [← hW]
  clear hW
  have F1 : Hid (0 ≤ 0) := Nat.le_refl _
  go_region_held3 (fun w' => w'.cell? ⟨w.heap.size, 0, none⟩ = some (.int .i64 ax) ∧ w'.cell? ⟨w.heap.size, 1, none⟩ = some (.int .i64 ay) ∧ w'.cell? ⟨w.heap.size + 1, 0, none⟩ = some (.int .i64 bx) ∧ w'.cell? ⟨w.heap.size + 1, 1, none⟩ = some (.int .i64 by'))
    (first
      | go_keep)
    (first
      | (go_at_call 99; clear F1; refine (cmpInt_any ax bx _).mono ?_; rintro e w1 ⟨rfl, rfl⟩)
      | (go_at_call 99; refine (cmpInt_any ay by' _).mono ?_; rintro e w1 ⟨rfl, rfl⟩)
      | (go_at_call 98; refine (or2 (sgn (ax - bx)) (sgn (ay - by')) W.heap.size _ (by go_simp) (by go_simp)).mono ?_; rintro e w1 ⟨rfl, rfl⟩))
  go_wp2_with fail
  go_ret
  exact ⟨rfl, (HW.out.1.al _).dr⟩

end Go.Proofs.Ytgeoffpcmkofkaa
/- The library's sort by a comparison, at points, triangles and directed sides: where its functions and types stand in this program. -/
namespace Go.Proofs.Ytgeoffpcmkofkaa
open Go.Shelf
def Try.sortP_ren : Go.Shelf.Ren := ⟨fun | 6 => 101 | 15 => 108 | 14 => 107 | 28 => 117 | 29 => 118 | 20 => 109 | 21 => 110 | 22 => 111 | 23 => 112 | 24 => 113 | 25 => 114 | 26 => 115 | 27 => 116 | 46 => 119 | 47 => 120 | 48 => 121 | 49 => 122 | 50 => 123 | 57 => 124 | n => n, fun | 22 => 28 | 24 => 23 | 25 => 102 | 3 => 3 | 39 => 125 | 0 => 0 | 53 => 134 | 55 => 111 | 4 => 4 | 46 => 128 | 45 => 127 | 50 => 70 | 5 => 5 | 9 => 9 | 66 => 136 | 70 => 140 | 76 => 142 | 77 => 143 | n => n, fun | n => n⟩
theorem Try.sortP : Go.Proofs.SlLaysF0.n6 Try.prog Try.sortP_ren := {
  mixed := by kernel_rfl
  f6 := ⟨Try.f101.name, by decide, Try.func101.trans (congrArg some (by kernel_rfl))⟩
  f14 := ⟨Try.f107.name, by decide, Try.func107.trans (congrArg some (by kernel_rfl))⟩
  f15 := Try.func108.trans (congrArg some (by kernel_rfl))
  f20 := ⟨Try.f109.name, by decide, Try.func109.trans (congrArg some (by kernel_rfl))⟩
  f21 := ⟨Try.f110.name, by decide, Try.func110.trans (congrArg some (by kernel_rfl))⟩
  f22 := ⟨Try.f111.name, by decide, Try.func111.trans (congrArg some (by kernel_rfl))⟩
  f23 := ⟨Try.f112.name, by decide, Try.func112.trans (congrArg some (by kernel_rfl))⟩
  f24 := ⟨Try.f113.name, by decide, Try.func113.trans (congrArg some (by kernel_rfl))⟩
  f25 := ⟨Try.f114.name, by decide, Try.func114.trans (congrArg some (by kernel_rfl))⟩
  f26 := ⟨Try.f115.name, by decide, Try.func115.trans (congrArg some (by kernel_rfl))⟩
  f27 := ⟨Try.f116.name, by decide, Try.func116.trans (congrArg some (by kernel_rfl))⟩
  f28 := Try.func117.trans (congrArg some (by kernel_rfl))
  f29 := Try.func118.trans (congrArg some (by kernel_rfl))
  f46 := ⟨Try.f119.name, by decide, Try.func119.trans (congrArg some (by kernel_rfl))⟩
  f47 := Try.func120.trans (congrArg some (by kernel_rfl))
  f48 := Try.func121.trans (congrArg some (by kernel_rfl))
  f49 := ⟨Try.f122.name, by decide, Try.func122.trans (congrArg some (by kernel_rfl))⟩
  f50 := ⟨Try.f123.name, by decide, Try.func123.trans (congrArg some (by kernel_rfl))⟩
  f57 := ⟨Try.f124.name, by decide, Try.func124.trans (congrArg some (by kernel_rfl))⟩
  t0 := Try.underlying0
  a0 := Try.isAgg0
  z0 := Try.sizeOf0
  v0 := Try.zeroValue0
  t3 := Try.underlying3
  a3 := Try.isAgg3
  z3 := Try.sizeOf3
  v3 := Try.zeroValue3
  t4 := Try.underlying4
  a4 := Try.isAgg4
  z4 := Try.sizeOf4
  v4 := Try.zeroValue4
  t5 := Try.underlying5
  a5 := Try.isAgg5
  z5 := Try.sizeOf5
  v5 := Try.zeroValue5
  t9 := Try.underlying9
  a9 := Try.isAgg9
  z9 := Try.sizeOf9
  v9 := Try.zeroValue9
  t22 := Try.underlying28
  a22 := Try.isAgg28
  z22 := Try.sizeOf28
  v22 := Try.zeroValue28
  t25 := Try.underlying102
  a25 := Try.isAgg102
  z25 := Try.sizeOf102
  v25 := Try.zeroValue102
  t39 := Try.underlying125
  a39 := Try.isAgg125
  z39 := Try.sizeOf125
  v39 := Try.zeroValue125
  t45 := Try.underlying127
  a45 := Try.isAgg127
  z45 := Try.sizeOf127
  v45 := Try.zeroValue127
  t46 := Try.underlying128
  a46 := Try.isAgg128
  z46 := Try.sizeOf128
  v46 := Try.zeroValue128
  t50 := Try.underlying70
  a50 := Try.isAgg70
  z50 := Try.sizeOf70
  v50 := Try.zeroValue70
  t53 := Try.underlying134
  a53 := Try.isAgg134
  z53 := Try.sizeOf134
  v53 := Try.zeroValue134
  t55 := Try.underlying111
  a55 := Try.isAgg111
  z55 := Try.sizeOf111
  v55 := Try.zeroValue111
  t66 := Try.underlying136
  a66 := Try.isAgg136
  z66 := Try.sizeOf136
  v66 := Try.zeroValue136
  t70 := Try.underlying140
  a70 := Try.isAgg140
  z70 := Try.sizeOf140
  v70 := Try.zeroValue140
  t76 := Try.underlying142
  a76 := Try.isAgg142
  z76 := Try.sizeOf142
  v76 := Try.zeroValue142
  t77 := Try.underlying143
  a77 := Try.isAgg143
  z77 := Try.sizeOf143
  v77 := Try.zeroValue143 }
end Go.Proofs.Ytgeoffpcmkofkaa
/- The library's sort by a comparison, over rows of points, of directed sides and of triangles. -/
namespace Go.Proofs.Ytgeoffpcmkofkaa
open Go.RowKit Fl Go.Sort Go.Shelf Go.Lib
set_option maxRecDepth 100000

section
variable {α : Type} [Inhabited α] {enc : α → List Value} {k : Nat}
omit [Inhabited α] in
theorem flat_length (hk : ∀ x, (enc x).length = k) : ∀ l : List α, (l.flatMap enc).length = l.length * k
  | [] => by simp
  | x :: l => by simp [List.flatMap_cons, flat_length hk l, hk, Nat.add_mul]; omega
theorem flat_get (hk : ∀ x, (enc x).length = k) : ∀ (l : List α) (t : Nat), t < l.length * k → (l.flatMap enc)[t]? = (enc l.toArray[t / k]!)[t % k]?
  | [], t, h => by simp at h
  | x :: l, t, h => by
    have k0 : 0 < k := by
      rcases Nat.eq_zero_or_pos k with h0 | h0
      · subst h0; simp at h
      · exact h0
    rw [List.flatMap_cons]
    rcases Nat.lt_or_ge t k with h1 | h1
    · rw [List.getElem?_append_left (by rw [hk]; exact h1), Nat.div_eq_of_lt h1, Nat.mod_eq_of_lt h1]
      rfl
    · obtain ⟨d, rfl⟩ := Nat.exists_eq_add_of_le h1
      rw [List.getElem?_append_right (by rw [hk]; exact h1), hk, Nat.add_sub_cancel_left, flat_get hk l d (by simp [Nat.add_mul] at h; omega)]
      rw [Nat.add_div_left _ k0, Nat.add_mod_left]
      simp
theorem flatK_list (hk : ∀ x, (enc x).length = k) (l : List α) : (flatK enc k l.toArray).toList = l.flatMap enc := by
  apply List.ext_getElem?
  intro t
  rcases Nat.lt_or_ge t (l.length * k) with h | h
  · rw [flat_get hk l t h]
    have k0 : 0 < k := by
      rcases Nat.eq_zero_or_pos k with h0 | h0
      · subst h0; simp at h
      · exact h0
    have hm : t % k < (enc l.toArray[t / k]!).length := by rw [hk]; exact Nat.mod_lt _ k0
    have hs : t < (flatK enc k l.toArray).size := by simp [h]
    rw [Array.getElem?_toList, Array.getElem?_eq_getElem hs, List.getElem?_eq_getElem hm]
    have := get_flatK enc k l.toArray t (by simpa using h)
    rw [getElem!_pos (flatK enc k l.toArray) t hs] at this
    rw [this, getElem!_pos (enc l.toArray[t / k]!) (t % k) hm]
  · rw [List.getElem?_eq_none (by simpa using h), List.getElem?_eq_none (by rw [flat_length hk]; exact h)]

theorem holdsK_row (hk : ∀ x, (enc x).length = k) {w : World} {base e g n cap : Nat} {l : List α} (h : w.ownsRow base e k (.slice (some ⟨g, 0, none⟩) n cap) n (l.flatMap enc)) (hl : l.length = n) : HoldsK enc k w g 0 l.toArray := by
  intro j hj
  have hj' : j < n * k := by simpa [hl] using hj
  have hc := h.cellAt j hj'
  rcases h.2 with ⟨h', _⟩ | ⟨g', cap', cur, h', _, hg, _⟩
  · simp at h'
  · simp only [Value.slice.injEq, Option.some.injEq, Addr.mk.injEq, and_true, true_and] at h'
    obtain ⟨rfl, _⟩ := h'
    refine ⟨?_, by simp [World.frozen?, hg]⟩
    rw [Nat.zero_add, hc, ← flatK_list hk, Array.getElem?_toList, Array.getElem?_eq_getElem hj, getElem!_pos _ j hj]
    rfl

/-- What the sort leaves. -/
theorem sorted_row (hk : ∀ x, (enc x).length = k) {w : World} {base e g n cap m : Nat} {os : Array Obj} {l l' : List α} (h : w.ownsRow base e k (.slice (some ⟨g, 0, none⟩) n cap) n (l.flatMap enc)) (hl : l.length = n) (hl' : l'.length = n) :
    (sortWorldK enc k w g 0 m l'.toArray os).ownsRow base e k (.slice (some ⟨g, 0, none⟩) n cap) n (l'.flatMap enc) ∧ w.grownBy (sortWorldK enc k w g 0 m l'.toArray os) (some g) := by
  have hH := holdsK_row hk h hl
  rcases h.2 with ⟨h', _⟩ | ⟨g', cap', cur, h', hb, hg, h3, h4, h5, h6⟩
  · simp at h'
  · simp only [Value.slice.injEq, Option.some.injEq, Addr.mk.injEq, and_true, true_and] at h'
    obtain ⟨rfl, rfl⟩ := h'
    have hlt : g < w.heap.size := (Array.getElem?_eq_some_iff.1 hg).1
    have hheap : (sortWorldK enc k w g 0 m l'.toArray os).heap[g]? = some (.cells (putCells id 0 (flatK enc k l'.toArray) cur) e (0, 0)) := by
      unfold sortWorldK putRowK
      rw [heap_grow_old _ _ (by simpa using hlt)]
      simp [putRow, mapBlock, Sort.ahead, Array.getElem?_modify, hg, onCells]
    have hH' := holdsK_sortWorldK enc k w g 0 m l.toArray l'.toArray os hlt hH (by simp [hl, hl'])
    refine ⟨⟨by rw [flat_length hk, hl'], .inr ⟨g, cap, _, rfl, hb, hheap, h3, h4, by simp [putCells, h5], ?_⟩⟩, rfl, rfl, rfl, ?_, fun j hj hne => ?_⟩
    · apply List.ext_getElem?
      intro j
      rcases Nat.lt_or_ge j (n * k) with hj | hj
      · rw [List.getElem?_take_of_lt hj]
        have := (hH' j (by simp [hl', hj])).1
        rw [Nat.zero_add] at this
        simp only [World.cell?, hheap] at this
        simp only [Option.isSome_none, Bool.false_eq_true, if_false] at this
        rw [Array.getElem?_toList, this]
        have hs : j < (flatK enc k l'.toArray).size := by simp [hl', hj]
        rw [← flatK_list hk, Array.getElem?_toList, Array.getElem?_eq_getElem hs, getElem!_pos _ j hs]
        rfl
      · rw [List.getElem?_eq_none (by simp; omega), List.getElem?_eq_none (by rw [flat_length hk, hl']; exact hj)]
    · unfold sortWorldK putRowK putRow mapBlock grow Sort.ahead; simp
    · unfold sortWorldK putRowK
      rw [heap_grow_old _ _ (by simpa using hj)]
      have : g ≠ j := fun e => hne (by rw [e])
      simp [putRow, mapBlock, Sort.ahead, Array.getElem?_modify, this]

theorem permIn_list {l : List α} {d' : Array α} (h : PermIn 0 l.length l.toArray d') : d'.toList.Perm l ∧ d'.toList.length = l.length := by
  have hs : d'.size = l.length := by simpa using h.1
  have := h.2.2
  have e1 : (d'.extract 0 l.length).toList = d'.toList := by rw [← hs]; simp
  have e2 : (l.toArray.extract 0 l.length).toList = l := by simp
  rw [e1, e2] at this
  exact ⟨this, by simpa using hs⟩
theorem sortedIn_list {lt : α → α → Bool} {d' : Array α} {n : Nat} (hn : d'.size = n) (h : SortedIn lt 0 n d') : d'.toList.Pairwise (fun x y => lt y x = false) := by
  rw [List.pairwise_iff_getElem]
  intro i j hi hj hij
  have := h i j (Nat.zero_le _) hij (by simpa [hn] using hj)
  rw [getElem!_pos d' i (by simpa using hi), getElem!_pos d' j (by simpa using hj)] at this
  simpa using this
end

end Go.Proofs.Ytgeoffpcmkofkaa
/- What the library's sort makes of points, of directed sides and of triangles. -/
namespace Go.Proofs.Ytgeoffpcmkofkaa
open Go.RowKit Fl Go.Sort Go.Shelf Go.Lib
set_option maxRecDepth 100000

def encP (p : Pt) : List Value := [.int .i64 p.1, .int .i64 p.2]
theorem orI_neg (s t : Int) : orI s t < 0 ↔ s < 0 ∨ s = 0 ∧ t < 0 := by
  unfold orI; split <;> omega
theorem orI_zero (s t : Int) : orI s t = 0 ↔ s = 0 ∧ t = 0 := by
  unfold orI; split <;> omega
theorem cmpP_neg (a b : Pt) : cmpP a b < 0 ↔ a.1 < b.1 ∨ a.1 = b.1 ∧ a.2 < b.2 := by
  unfold cmpP
  rw [orI_neg, sgn_neg', sgn_zero, sgn_neg']
  omega
theorem cmpP_zero (a b : Pt) : cmpP a b = 0 ↔ a = b := by
  unfold cmpP
  rw [orI_zero, sgn_zero, sgn_zero]
  constructor
  · rintro ⟨h1, h2⟩; exact pt_ext (by omega) (by omega)
  · rintro rfl; omega
theorem ltOf_iff {α : Type} (cf : α → α → Int) (x y : α) : ltOf cf x y = true ↔ cf x y < 0 := by simp [ltOf]
theorem ltOf_not {α : Type} (cf : α → α → Int) (x y : α) : ltOf cf x y = false ↔ ¬cf x y < 0 := by simp [ltOf]

theorem swoP : SWO (ltOf cmpP) where
  irrefl x := by rw [ltOf_not, cmpP_neg]; omega
  trans x y z h1 h2 := by rw [ltOf_iff, cmpP_neg] at *; omega
  ntrans x y z h1 h2 := by rw [ltOf_not, cmpP_neg] at *; omega
theorem pt_eq_iff (p q : Pt) : p = q ↔ p.1 = q.1 ∧ p.2 = q.2 := ⟨fun h => by rw [h]; exact ⟨rfl, rfl⟩, fun h => pt_ext h.1 h.2⟩
theorem laysP (blk off size : Nat) (w : World) : CmpLays Try.prog 85 #[] encP 2 cmpP blk off size w :=
  fun _ _ _ _ x y => (compare_gr x.1 x.2 y.1 y.2 _).mono fun _ _ h => ⟨h.1, h.2.out⟩
theorem lenP (x : Pt) : (encP x).length = 2 := rfl
theorem sortP_any (base g cap : Nat) (l : List Pt) (w : World) (h : w.ownsRow base 23 2 (.slice (some ⟨g, 0, none⟩) l.length cap) l.length (l.flatMap encP)) (hg : g < w.heap.size) (hl : l.length < 4611686018427387904) :
    Calls Try.prog 101 #[.slice (some ⟨g, 0, none⟩) l.length cap, .func (.func 85) #[] #[]] w fun e w' => e = .returned (.tuple #[]) ∧
      Hid (∃ l' : List Pt, l'.Perm l ∧ l'.Pairwise (fun x y => ltOf cmpP y x = false) ∧ w'.ownsRow base 23 2 (.slice (some ⟨g, 0, none⟩) l.length cap) l.length (l'.flatMap encP) ∧ w.grownBy w' (some g)) := by
  have eg : ∀ args w, (callFunc 85 args).run Try.prog w = .ok (.enter 85 args) w := enters_of Try.func85 (by kernel_rfl) rfl
  have hc := AnyQ.slices_SortFunc Try.sortP 2 Try.isAgg23 Try.sizeOf23 encP lenP (fun x v hv => by simp [encP] at hv; rcases hv with rfl | rfl <;> rfl) cmpP swoP 85 #[] g 0 cap l.toArray w eg (laysP _ _ _ _) (holdsK_row lenP h rfl) hg (by simpa using hl)
  change Calls Try.prog 101 _ _ _ at hc
  refine hc.mono fun e w' hh => ?_
  obtain ⟨he, d', m, os, hp, hs, rfl⟩ := hh
  have hp' := permIn_list hp
  have hs' := sortedIn_list (n := l.length) (by simpa using hp.1) hs
  have hr := sorted_row lenP (m := m) (os := os) (l' := d'.toList) h rfl hp'.2
  refine ⟨he, d'.toList, hp'.1, hs', ?_⟩
  simpa using hr
end Go.Proofs.Ytgeoffpcmkofkaa
