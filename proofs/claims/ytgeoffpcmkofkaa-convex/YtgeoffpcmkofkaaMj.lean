/- The corners of some points, worked out in company. -/
import Derived.Test.YtgeoffpcmkofkaaMi
namespace Go.Proofs.Ytgeoffpcmkofkaa
open Go Go.Conc Go.RowKit

/-- A row of points that is not the one that was read. -/
def RowQ (r0 : Nat) (v : Value) (w : World) (out : Pts) : Prop := (v = .slice none 0 0 ∧ out = []) ∨ ∃ g cap, v = .slice (some ⟨g, 0, none⟩) out.length cap ∧ g ≠ r0 ∧ PtsAt w g 0 out
/-- What 'around' does, alone, with a row that may not be written. -/
def AroundC (r0 off n cap : Nat) (c : Array Value) (out : Pts) : Prop := ∀ wl : World, wl.heap[r0]? = some (.cells c 23 (0, c.size)) → Calls Try.prog 70 #[.slice (some ⟨r0, off, none⟩) n cap] wl fun e w' => ∃ v, e = .returned v ∧ RowQ r0 v w' out
/-- .. and with none. -/
def AroundN (out : Pts) : Prop := ∀ wl : World, Calls Try.prog 70 #[.slice none 0 0] wl fun e w' => ∃ v, e = .returned v ∧ RowQ 0 v w' out
noncomputable abbrev GN : Nat := Try.prog.globals.size
section
variable {L : Nat} {FS : FuncId → Prop} {O S : Nat → Prop} {B : BR} {wl w : World} {v v' : Value} {out : Pts} {r0 : Nat}
theorem row_fin {Sh : Nat → Prop} (hSh : ∀ r, Sh r → r = r0) (hH : Has Sh B O S) (hw : WR L FS Sh B wl w) (hv : VR L FS B v v') (hq : RowQ r0 v wl out) : RowO O w v' out := by
  rcases hq with ⟨rfl, rfl⟩ | ⟨g, cap, rfl, hg, hp⟩
  · cases hv
    exact .inl ⟨rfl, rfl⟩
  · cases hv with
    | slice l c ha =>
      rename_i a'
      obtain ⟨b', o', s'⟩ := a'
      have h1 : o' = 0 := ha.off
      have h2 : s' = none := ha.spot
      subst h1 h2
      have hB : B g b' := ha.block
      refine .inr ⟨b', cap, rfl, (hH g b' hB).2 fun h => hg (hSh g h), fun i hi => ?_⟩
      obtain ⟨q1, q2⟩ := hp i hi
      have a1 : AR L B (⟨g, 0 + i * 2, none⟩ : Addr) ⟨b', 0 + i * 2, none⟩ := ⟨hB, rfl, rfl, ha.low⟩
      have a2 : AR L B (⟨g, 0 + i * 2 + 1, none⟩ : Addr) ⟨b', 0 + i * 2 + 1, none⟩ := ⟨hB, rfl, rfl, ha.low⟩
      obtain ⟨x, e1, e2⟩ := hw.cell a1 q1
      obtain ⟨y, e3, e4⟩ := hw.cell a2 q2
      cases e2
      cases e4
      exact ⟨e1, e3⟩
theorem ints_rel {c : Array Value} (h : ∀ x ∈ c.toList, ∃ n, x = .int .i64 n) (B : BR) : VRs L FS B c.toList c.toList := by
  generalize c.toList = l at h
  induction l with
  | nil => exact .nil
  | cons x l ih =>
    obtain ⟨n, rfl⟩ := h x (by simp)
    exact .cons (.int _ _) (ih fun y hy => h y (by simp [hy]))
theorem rowQ_on {T : Nat → Question → Nat} (h : RowQ r0 v w out) : RowQ r0 v (on w T) out := h
end
theorem fs70 : FSof fsB 70 := by decide
/-- The call, in company: it runs to its end. -/
theorem around_runs {r0 off n cap N : Nat} {c : Array Value} {out : Pts} {w : World} (hC : AroundC r0 off n cap c out) (hw : w.heap[r0]? = some (.cells c 23 (0, 0))) (hc : ∀ x ∈ c.toList, ∃ n, x = .int .i64 n) (hG : GN ≤ w.heap.size) (hr : GN ≤ r0) (hN : r0 < N) (base : List Frame) :
    Runs Try.prog (· < N) base (FinV GN (FSof fsB) (· = r0) Try.prog (· < N) (PostV Try.prog 70 fun v w' => RowQ r0 v w' out)) (fun _ => False) (Frame.enter Try.prog 70 #[.slice (some ⟨r0, off, none⟩) n cap] .normal) base w := by
  have hlt : r0 < w.heap.size := (Array.getElem?_eq_some_iff.1 hw).1
  refine runs_of_calls (G := GN) (FS := FSof fsB) (Sh := (· = r0)) (Q := fun v w' => RowQ r0 v w' out) (openOK (Nat.le_refl _)) bodies noEarly fs70 (B := fun r r' => r = r0 ∧ r' = r0) (xs := #[.slice (some ⟨r0, off, none⟩) n cap]) ?_ (iced_WR (c := c) (e := 23) hw hG fun B => ints_rel hc B) (fun r r' hb => ⟨fun _ => by rw [hb.2]; exact hN, fun h => absurd hb.1 h⟩) (fun v w T h => rowQ_on h) (fun T => hC (on (iced w r0 c 23) T) (iced_at hlt)) base
  exact .cons (.slice _ _ ⟨⟨rfl, rfl⟩, rfl, rfl, hr⟩) .nil
theorem around_fin {r0 N : Nat} {out : Pts} {O : Nat → Prop} {fr : Frame} {w : World} (hm : fr.mode = .returning) (h : ∀ w2, Keeps O (· < N) w w2 → FinV GN (FSof fsB) (· = r0) Try.prog (· < N) (PostV Try.prog 70 fun v w' => RowQ r0 v w' out) O fr w2) :
    ∃ v', RowO O w v' out ∧ ∀ main w2 c rest, stepG Try.prog main (G fr (c :: rest)) w2 = .go (G (c.finish v') rest) w2 #[] := by
  obtain ⟨v', h1, h2⟩ := fin_ret2 bodies fs70 h hm
  obtain ⟨B, v, wl, q1, q2, q3, q4⟩ := h1 w (Keeps.refl _ _ _)
  exact ⟨v', row_fin (fun r h => h) q1 q2 q3 q4, fun main w2 c rest => h2 w2 main c rest⟩
/-- One that works a part's corners out and sends them. -/
theorem kid71 {r0 off n cap N ch : Nat} {c : Array Value} {out : Pts} {w : World} (hC : AroundC r0 off n cap c out) (hw : w.heap[r0]? = some (.cells c 23 (0, 0))) (hc : ∀ x ∈ c.toList, ∃ n, x = .int .i64 n) (hG : GN ≤ w.heap.size) (hr : GN ≤ r0) (hN : r0 < N) (hlen : out.length ≤ 1000) :
    KT Try.prog (· < N) ch (out.map ptV) (fun _ => False) (born Try.prog (dcall 91 #[.slice (some ⟨r0, off, none⟩) n cap, .chan (some ch)])) w := by
  refine kid91 hlen (fun base w2 k => around_runs hC (by rw [k.block r0 (.inr hN)]; exact hw) hc (Nat.le_trans hG k.size) hr hN base) fun O fr w2 hm hf => ?_
  obtain ⟨v', h1, h2⟩ := around_fin hm hf
  exact ⟨v', h1, fun w2 c rest => h2 false w2 c rest⟩
/-- The main goroutine calls it. -/
theorem A.around {Post : Value → World → Prop} {r0 off n cap : Nat} {c : Array Value} {out : Pts} {w : World} {x : Frame} {cs : List Frame} (hC : AroundC r0 off n cap c out) (hw : w.heap[r0]? = some (.cells c 23 (0, 0))) (hc : ∀ x ∈ c.toList, ∃ n, x = .int .i64 n) (hr : GN ≤ r0)
    (h : ∀ v w', RowO (w.heap.size ≤ ·) w' v out → w.heap.size ≤ w'.heap.size → w'.os = w.os → w'.output = w.output → (∀ r, r < w.heap.size → w'.heap[r]? = w.heap[r]?) → A Try.prog Post (x.finish v) cs w') :
    A Try.prog Post (Frame.enter Try.prog 70 #[.slice (some ⟨r0, off, none⟩) n cap] .normal) (x :: cs) w := by
  have hlt : r0 < w.heap.size := (Array.getElem?_eq_some_iff.1 hw).1
  have hR := around_runs (N := w.heap.size) hC hw hc (by omega) hr hlt (x :: cs)
  refine A.of_runs hR (fun r hr => hr.elim (fun h => h.elim) id) fun O' fr w' hm hf q1 q2 q3 q4 q5 q6 => ?_
  obtain ⟨v', h1, h2⟩ := around_fin hm hf
  refine .ctl (fun w2 => h2 true w2 x cs) (h v' w' ?_ q3 q4 q5 fun r hr => q6 r hr fun h => h.elim)
  exact h1.imp id fun ⟨g, cap, e1, e2, e3⟩ => ⟨g, cap, e1, (q1 g e2).elim (fun h => h.elim) id, e3⟩
end Go.Proofs.Ytgeoffpcmkofkaa
