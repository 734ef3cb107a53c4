/- Mk: texts laid into one. -/
import Derived.Test.YtgeoffpcmkofkaaRbb
import Derived.Test.YtgeoffpcmkofkaaRbe
/- The corners of the parts, by goroutines: the whole call. -/
namespace Go.Proofs.Ytgeoffpcmkofkaa
open Go Go.Conc Go.RowKit
set_option maxRecDepth 100000

noncomputable def head71 : Code := match Try.f71.body with
  | some (.seq _ (.seq _ (.seq (.seq r _) _))) => r
  | _ => .skip
theorem fs90 : FSof fsI 90 := by decide
theorem New.same {w w' w2 : World} (h : New w w') (k : Same w' w2) (T : Nat → Question → Nat) (d : Nat) : New (mv w T d) (mv w2 T d) := ⟨k.os.trans h.os, rfl, k.output.trans h.output, by rw [show (mv w2 T d).heap = w2.heap from rfl, k.heap]; exact h.size, fun r hr hn => by rw [show (mv w2 T d).heap = w2.heap from rfl, k.heap]; exact h.block r hr hn⟩
/-- What is kept of old memory. -/
structure Kept (w w' : World) : Prop where
  os : w'.os = w.os
  output : w'.output = w.output
  size : w.heap.size ≤ w'.heap.size
  block : ∀ r, r < w.heap.size → w'.heap[r]? = w.heap[r]?
theorem Kept.refl (w : World) : Kept w w := ⟨rfl, rfl, Nat.le_refl _, fun _ _ => rfl⟩
theorem Kept.trans {w w1 w2 : World} (h : Kept w w1) (k : Kept w1 w2) : Kept w w2 := ⟨k.os.trans h.os, k.output.trans h.output, Nat.le_trans h.size k.size, fun r hr => (k.block r (Nat.lt_of_lt_of_le hr h.size)).trans (h.block r hr)⟩
theorem Kept.same {w w1 w2 : World} (h : Kept w w1) (k : Same w1 w2) : Kept w w2 := h.trans ⟨k.os, k.output, by rw [k.heap]; exact Nat.le_refl _, fun r _ => by rw [k.heap]⟩
theorem New.kept0 {w w1 w' : World} (h : New w1 w') (k : Same w w1) : Kept w w' := ⟨h.os.trans k.os, h.output.trans k.output, by rw [← k.heap]; exact h.size, fun r hr => by rw [← k.heap]; exact h.block r (by rw [k.heap]; exact hr) (by simp)⟩
/-- What cut leaves. -/
structure CutK (r0 off n : Nat) (w w' : World) (v : Value) (m : Nat) : Prop where
  kept : Kept w w'
  own : w'.ownsRow w.heap.size 28 1 v m (cutL r0 off n m)
theorem owns_same {w w1 : World} {N e size n : Nat} {v : Value} {xs : List Value} (h : w.ownsRow N e size v n xs) (k : Same w w1) : w1.ownsRow N e size v n xs := by
  refine ⟨h.1, h.2.imp id fun ⟨g, cap, cur, h1, h2, h3, h4⟩ => ⟨g, cap, cur, h1, h2, ?_, h4⟩⟩
  rw [k.heap]
  exact h3
theorem own_base {w : World} {N N' e size n : Nat} {v : Value} {xs : List Value} (hN : N ≤ N') (h : w.ownsRow N' e size v n xs) : w.ownsRow N e size v n xs := ⟨h.1, h.2.imp id fun ⟨g, cap, cur, h1, h2, h3⟩ => ⟨g, cap, cur, h1, Nat.le_trans hN h2, h3⟩⟩
/-- The row that is handed on. -/
structure Out71 (w w' : World) (v : Value) (pts : Pts) : Prop where
  kept : Kept w w'
  row : w'.ownsRow w.heap.size 23 2 v pts.length (flatP pts)
  ints : AllRow IsI w' v
/-- Where the call is about to return. -/
def Fin71 (x : Frame) (cs : List Frame) (w : World) (pts : Pts) (a : Goroutine) (w' : World) : Prop := ∃ tmps todo av, a = G { (base 71).at { tmps := tmps, defers := [] } todo with mode := .returning } (x :: cs) ∧ tmps.getD 2 undef = av ∧ Out71 w w' av pts
set_option maxHeartbeats 1000000 in
theorem A.parts {Post : Value → World → Prop} {r0 off n cap : Nat} {c : Array Value} {outs : Nat → Pts} {w : World} {x : Frame} {cs : List Frame} (hn : n ≤ 1000) (hcap : n ≤ cap) (hw : w.heap[r0]? = some (.cells c 23 (0, 0))) (hc : ∀ x ∈ c.toList, ∃ n, x = .int .i64 n) (hr : GN ≤ r0)
    (hC : ∀ i, i < (n + 7) / 8 → AroundC r0 (off + i * 16) (min 8 (n - 8 * i)) (min 8 (n - 8 * i)) c (outs i)) (hlen : (cat outs ((n + 7) / 8)).length ≤ 10000) (hl1 : ∀ i, (outs i).length ≤ 1000)
    (h : ∀ v w', Out71 w w' v (cat outs ((n + 7) / 8)) → A Try.prog Post (x.finish v) cs w') :
    A Try.prog Post (Frame.enter Try.prog 71 #[.slice (some ⟨r0, off, none⟩) n cap] .normal) (x :: cs) w := by
  have hlt : r0 < w.heap.size := (Array.getElem?_eq_some_iff.1 hw).1
  rw [Conc.enter_at _ Try.func71 (c := Try.f71.body.getD .skip) rfl]
  walk_nrmf Try.f71
  refine .ctl (fun _ => stepG_seq) ?_
  refine .ctl (fun _ => stepG_region) ?_
  walk_nrm
  refine .mov (.slice none 0 0) rfl rfl (.inr rfl) rfl (by decide) ?_
  walk_nrm
  refine .ctl (fun _ => stepG_region_end) ?_
  refine .ctl (fun _ => stepG_seq) ?_
  refine .ctl (fun _ => stepG_region) ?_
  walk_nrm
  refine .mov (.slice none 0 0) rfl rfl (.inr rfl) rfl (by decide) ?_
  walk_nrm
  refine .ctl (fun _ => stepG_region_end) ?_
  refine .ctl (fun _ => stepG_seq) ?_
  refine .ctl (fun _ => stepG_seq) ?_
  refine .ctl (fun _ => stepG_region) ?_
  walk_nrm
  refine .mov (.slice (some ⟨r0, off, none⟩) n cap) rfl rfl (.inl rfl) rfl (by decide) ?_
  walk_nrm
  refine .ent (f := 90) (xs := #[.slice (some ⟨r0, off, none⟩) n cap]) rfl rfl (by decide) (fun w' => by go_simp) (fun w' => by simp [go_sem, callFunc, Try.func90, Try.f90]) ?_
  refine A.call bodP noEarly fs90 Try.func90 (c := Try.f90.body.getD .skip) rfl (Q := fun v w' => CutK r0 off n w w' v ((n + 7) / 8)) (fun v w1 w2 k q => ⟨q.kept.same k, owns_same q.own k⟩) (fun w' hs => (cut_some r0 off n cap w' hcap (by omega)).mono ?_) fun pcv w1 hq => ?_
  · rintro e w2 ⟨v, rfl, H⟩
    refine ⟨v, rfl, H.out.new.kept0 hs, ?_⟩
    have := H.out.own
    rw [show w'.heap.size = w.heap.size by rw [hs.heap]] at this
    exact this
  rw [Frame.finish_at]
  walk_nrm
  -- the others are started
  have hsz1 := hq.kept.size
  have hrow1 : w1.heap[r0]? = some (.cells c 23 (0, 0)) := by rw [hq.kept.block r0 hlt]; exact hw
  refine A.of_MB (Fin := Fin71 x cs w (cat outs ((n + 7) / 8))) (fun w2 hs => ?_) fun a w' hf => ?_
  · have hpcv : ∃ b cap, pcv = .slice b ((n + 7) / 8) cap := by
      rcases hq.own.2 with ⟨e, e2⟩ | ⟨g, cap, cur, e1, _⟩
      · exact ⟨none, 0, by rw [e, e2]⟩
      · exact ⟨_, cap, e1⟩
    refine .val (.int .i64 ((n + 7) / 8 : Nat)) rfl rfl (by decide) (fun w3 _ => ?_) (fun w3 _ => ?_) ?_
    · obtain ⟨b, cap, rfl⟩ := hpcv
      go_simp
    · obtain ⟨b, cap, rfl⟩ := hpcv
      simp [go_sem]
    walk_nrm
    refine .mov (.int .i64 0) rfl rfl (.inl rfl) rfl (by decide) ?_
    walk_nrm
    refine .ctl rfl rfl (fun _ => stepG_region_end) ?_
    refine .ctl rfl rfl (fun _ => stepG_block) ?_
    refine .ctl rfl rfl (fun _ => stepG_loop) ?_
    have hs2 : w2.heap.size = w1.heap.size := by rw [hs.heap]
    refine start71 (N := w1.heap.size) (ws := w2) (outs := outs) (parts := partV r0 off n) (m := (n + 7) / 8) (by omega) hlen (fun hm => ?_) (fun i _ => ⟨_, _, _, rfl⟩) (fun i hi ch w3 hold hle => ?_) (fun O w3 pv cl av tmps todo hM ht => ⟨tmps, todo, av, rfl, ht, hq.kept.trans ⟨hM.m0.os.trans hs.os, hM.m0.output.trans hs.output, hM.m0.size, fun r hr => by rw [hM.m0.old r hr, hs.heap]⟩, own_base hsz1 hM.a, hM.ai⟩) ((n + 7) / 8) 0 (by omega) _ w2 _ [] _ _ _ _ _ _ _ _ _ _ _ _ _ _ rfl ?_ ?_ ?_
    · rcases hq.own.2 with ⟨_, e2⟩ | ⟨g, cap', cur, e1, e2, e3, e4, e5, e6, e7⟩
      · omega
      · refine ⟨g, cap', e1, (Array.getElem?_eq_some_iff.1 e3).1, fun i hi => ?_⟩
        have h1 : cur.toList[i]? = some (partV r0 off n i) := by
          have : (cur.toList.take ((n + 7) / 8 * 1))[i]? = some (partV r0 off n i) := by
            rw [e7]
            simp [cutL, hi]
          rw [List.getElem?_take_of_lt (by omega)] at this
          exact this
        simp only [World.cell?, hs.heap, e3]
        simpa using h1
    · refine kid71 (hC i hi) ?_ hc ?_ hr (by omega) (hl1 i)
      · rw [hold r0 (by omega), hs.heap]
        exact hrow1
      · omega
    · exact ⟨⟨fun r h => h.elim, fun _ _ => rfl, by rw [hs2]; exact Nat.le_refl _, rfl, rfl⟩, ⟨rfl, .inl ⟨rfl, rfl⟩⟩, (fun g hg => by cases hg), ⟨rfl, .inl ⟨rfl, rfl⟩⟩, (fun g hg => by cases hg), (fun g hg => by cases hg), (fun g hg => by cases hg)⟩
    · exact ⟨(fun i c _ hc => by simp at hc), (fun c o hc => by cases hc), (fun i i' c hc => by simp at hc)⟩
    · exact fun i c hc => by simp at hc
  · obtain ⟨tmps, todo, av, rfl, ht, hO⟩ := hf
    refine ⟨_, _, rfl, ?_⟩
    refine .ctl (fr1 := x.finish av) (cs1 := cs) (fun w3 => ?_) (h av w' hO)
    refine stepG_leave rfl rfl Try.func71 ?_ ?_
    · subst ht
      simp [results, Try.f71]
    · simp [results, Try.f71]
end Go.Proofs.Ytgeoffpcmkofkaa
