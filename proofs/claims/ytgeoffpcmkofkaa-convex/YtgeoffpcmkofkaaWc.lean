/- Expansions in memory: 'Difference', 'copyWithRoom', 'Plus', 'Minus', 'Sign'. -/
import Derived.Test.YtgeoffpcmkofkaaWb
namespace Go.Proofs.Ytgeoffpcmkofkaa
open Go.RowKit Fl
set_option maxRecDepth 100000

/-- An expansion lies at the head of block g, which has room for cap parts. -/
structure Lst (w : World) (g cap : Nat) (ws : Ws) : Prop where
  row : ∃ cur : Array Value, w.heap[g]? = some (.cells cur 81 (0, 0)) ∧ cur.size = cap ∧ cur.toList.take ws.length = ws.map fw
  words : Fs ws
  ex : Ex (vals ws)
  small : cap ≤ 1048576

theorem ex_reps {ws : Ws} (h : Ex (vals ws)) : ∀ p ∈ ws, Rep p.2 := by
  induction ws with
  | nil => simp
  | cons a l ih =>
    intro p hp
    rcases List.mem_cons.1 hp with rfl | hp
    · exact h.2.1
    · exact ih h.2.2.2 p hp

theorem Lst.lt {w : World} {g cap : Nat} {ws : Ws} (h : Lst w g cap ws) : g < w.heap.size := by
  obtain ⟨cur, h1, _⟩ := h.row
  exact (Array.getElem?_eq_some_iff.1 h1).1

theorem Lst.le {w : World} {g cap : Nat} {ws : Ws} (h : Lst w g cap ws) : ws.length ≤ cap := by
  obtain ⟨cur, _, h2, h3⟩ := h.row
  have := congrArg List.length h3
  simp at this
  omega

theorem Lst.kept {w w' : World} {g cap : Nat} {ws : Ws} {row : Option Nat} (h : Lst w g cap ws) (hg : w.grownBy w' row) (hne : some g ≠ row) : Lst w' g cap ws := by
  obtain ⟨cur, h1, h2⟩ := h.row
  exact ⟨⟨cur, by rw [hg.block g h.lt hne]; exact h1, h2⟩, h.words, h.ex, h.small⟩

theorem Lst.cell {w : World} {g cap : Nat} {ws : Ws} (h : Lst w g cap ws) {j : Nat} (hj : j < ws.length) : w.cell? ⟨g, j, none⟩ = some (.float .f64 ws[j].1) := by
  obtain ⟨cur, h1, h2, h3⟩ := h.row
  rw [cell_of_row w g j cur 81 (0, 0) h1]
  have : (cur.toList.take ws.length)[j]? = some (fw ws[j]) := by rw [h3]; simp [hj]
  rw [List.getElem?_take_of_lt hj] at this
  simpa [fw] using this

theorem Lst.of_owns {w : World} {base g cap n : Nat} {ws : Ws} (h : w.ownsRow base 81 1 (.slice (some ⟨g, 0, none⟩) n cap) n (ws.map fw)) (hn : n = ws.length) (hF : Fs ws) (he : Ex (vals ws)) (hs : cap ≤ 1048576) : Lst w g cap ws := by
  subst hn
  obtain ⟨_, h1⟩ := h
  rcases h1 with ⟨h1, _⟩ | ⟨g', cap', cur, h1, _, h2, _, _, h3, h4⟩
  · cases h1
  · cases h1
    exact ⟨⟨cur, h2, by simpa using h3, by simpa using h4⟩, hF, he, hs⟩

/-- Nothing that was there has turned. -/
abbrev New (w w' : World) : Prop := w.grownBy w' none

theorem New.trans {w w1 w2 : World} {row : Option Nat} (h : New w w1) (k : w1.grownBy w2 row) (hr : ∀ g, row = some g → w.heap.size ≤ g) : New w w2 := by
  refine ⟨k.os.trans h.os, k.tape.trans h.tape, k.output.trans h.output, Nat.le_trans h.size k.size, fun i hi _ => ?_⟩
  rw [k.block i (Nat.lt_of_lt_of_le hi h.size) (fun e => by have := hr i e.symm; omega), h.block i hi (by simp)]

theorem New.trans' {w w1 w2 : World} (h : New w w1) (k : New w1 w2) : New w w2 := h.trans k (by simp)

theorem grow_at (g cap : Nat) (ws : Ws) (b : Nat × Int) (K : Nat) (w : World) (h : Lst w g cap ws) (hroom : ws.length < cap) (hb : F b.1 b.2 0) (rb : Rep b.2) (hK : K + 52 ≤ 880)
    (hT : (b.2.natAbs : Int) + mass (vals ws) + ws.length * 2 ^ K ≤ 2 ^ 52 * 2 ^ K) :
    Calls Try.prog 96 #[.slice (some ⟨g, 0, none⟩) ws.length cap, .float .f64 b.1] w fun e w' =>
      ∃ out : Ws, e = .returned (.slice (some ⟨g, 0, none⟩) out.length cap) ∧ Lst w' g cap out ∧ total (vals out) = b.2 + total (vals ws) ∧ out.length ≤ ws.length + 1 ∧ mass (vals out) ≤ (b.2.natAbs : Int) + mass (vals ws) + ws.length * 2 ^ K ∧ w.grownBy w' (some g) := by
  obtain ⟨cur, h1, h2, h3⟩ := h.row
  refine (grow_any g cap ws b _ K cur w h1 h2 h3 hroom h.small ⟨h.words, ex_reps h.ex, hb, rb, hT, hK, Int.le_refl _⟩).mono ?_
  rintro e w' ⟨out, cur', rfl, hgr, r1, r2, r3, r4⟩
  exact ⟨out, rfl, ⟨⟨cur', r1, r2, r3⟩, hgr.words, hgr.gr.ex rb h.ex, h.small⟩, hgr.gr.total, hgr.len, hgr.bound, r4⟩

/-- A float64 that is a coordinate. -/
structure Co (a : Nat × Int) : Prop where
  word : F a.1 a.2 0
  small : (a.2.natAbs : Int) ≤ 9007199254740992

theorem Co.rep {a : Nat × Int} (h : Co a) : Rep a.2 := by
  have e : (2 : Int) ^ 53 = 9007199254740992 := by decide
  exact Rep.small (by have := h.small; omega)

theorem diff_one (b : Nat × Int) (h : Co b) (w1 : World) (g : Nat) (hl : Lst w1 g 2 []) :
    Calls Try.prog 96 #[.slice (some ⟨g, 0, none⟩) 0 2, .float .f64 (ng b.1)] w1 fun e w' =>
      ∃ out : Ws, e = .returned (.slice (some ⟨g, 0, none⟩) out.length 2) ∧ Hid (Lst w' g 2 out ∧ total (vals out) = -b.2 ∧ out.length ≤ 1 ∧ mass (vals out) ≤ (b.2.natAbs : Int) ∧ w1.grownBy w' (some g)) := by
  have e52 : (2 : Int) ^ 52 * 2 ^ 14 = 73786976294838206464 := by decide
  have hs := h.small
  refine (grow_at g 2 [] (ng b.1, -b.2) 14 w1 hl (by simp) h.word.neg h.rep.neg (by omega) (by rw [e52]; simp only [vals, mass, List.map_nil, List.length_nil]; omega)).mono ?_
  rintro e w' ⟨out, rfl, h1, h2, h3, h4, h5⟩
  exact ⟨out, rfl, h1, by simpa [vals, total] using h2, by simpa using h3, by simpa [vals, mass] using h4, h5⟩

theorem diff_two (a b : Nat × Int) (ha : Co a) (hb : Co b) (w1 : World) (g : Nat) (ws : Ws) (hl : Lst w1 g 2 ws) (ht : total (vals ws) = -b.2) (hlen : ws.length ≤ 1) (hm : mass (vals ws) ≤ (b.2.natAbs : Int)) :
    Calls Try.prog 96 #[.slice (some ⟨g, 0, none⟩) ws.length 2, .float .f64 a.1] w1 fun e w' =>
      ∃ out : Ws, e = .returned (.slice (some ⟨g, 0, none⟩) out.length 2) ∧ Hid (Lst w' g 2 out ∧ total (vals out) = a.2 - b.2 ∧ mass (vals out) ≤ 2 ^ 55 ∧ w1.grownBy w' (some g)) := by
  have e52 : (2 : Int) ^ 52 * 2 ^ 14 = 73786976294838206464 := by decide
  have e55 : (2 : Int) ^ 55 = 36028797018963968 := by decide
  have e14 : (2 : Int) ^ 14 = 16384 := by decide
  have h1 := ha.small
  have h2 := hb.small
  have hll : (ws.length : Int) * 2 ^ 14 ≤ 16384 := by rw [e14]; omega
  refine (grow_at g 2 ws a 14 w1 hl (by omega) ha.word ha.rep (by omega) (by rw [e52]; omega)).mono ?_
  rintro e w' ⟨out, rfl, h1, h2, h3, h4, h5⟩
  exact ⟨out, rfl, h1, by rw [h2, ht]; omega, by rw [e55]; omega, h5⟩

theorem new_lst {w w0 : World} {cap : Nat} (hs : cap ≤ 1048576) (h : w0.ownsRow w.heap.size 81 1 (.slice (some ⟨w.heap.size, 0, none⟩) 0 cap) 0 []) : Lst w0 w.heap.size cap [] :=
  Lst.of_owns (ws := []) h rfl (fun _ h => absurd h (by simp)) trivial hs

theorem make_two (w : World) : (Instr.makeSlice 87 (.int .i64 0) (.int .i64 2)).run Try.prog w = .ok (.slice (some ⟨w.heap.size, 0, none⟩) 0 2) (w.alloc (.cells #[.float .f64 0, .float .f64 0] 81)) := by kernel_rfl

set_option maxHeartbeats 400000 in
/-- 'Difference'. -/
theorem difference_any (a b : Nat × Int) (w : World) (ha : Co a) (hb : Co b) :
    Calls Try.prog 94 #[.float .f64 a.1, .float .f64 b.1] w fun e w' =>
      ∃ (g : Nat) (out : Ws), e = .returned (.slice (some ⟨g, 0, none⟩) out.length 2) ∧ Hid (Lst w' g 2 out ∧ w.heap.size ≤ g ∧ New w w' ∧ total (vals out) = a.2 - b.2 ∧ mass (vals out) ≤ 2 ^ 55) := by
  have hng := fneg
  have hmk := make_two
  have HL : Hid (Lst (w.alloc (.cells #[.float .f64 0, .float .f64 0] 81)) w.heap.size 2 []) := by
    refine ⟨⟨_, _root_.Go.heap_alloc_new w _, rfl, rfl⟩, fun _ h => absurd h (by simp), trivial, by omega⟩
  go_enter Try.func94, Try.ntmps94
  go_wp2_with fail
  refine (diff_one b hb _ _ HL.out).mono ?_
  rintro e w1 ⟨o1, rfl, H1⟩
  go_wp2_with fail
  refine (diff_two a b ha hb _ _ o1 H1.out.1 H1.out.2.1 H1.out.2.2.1 H1.out.2.2.2.1).mono ?_
  rintro e w2 ⟨o2, rfl, H2⟩
  go_wp2_with fail
  go_ret
  refine ⟨w.heap.size, o2, rfl, H2.out.1, Nat.le_refl _, ?_, H2.out.2.1, H2.out.2.2.1⟩
  exact (New.trans (World.grownBy_alloc w _ none) H1.out.2.2.2.2 (by rintro g ⟨⟩; exact Nat.le_refl _)).trans H2.out.2.2.2 (by rintro g ⟨⟩; exact Nat.le_refl _)

end Go.Proofs.Ytgeoffpcmkofkaa
