/- Nf: texts laid into one. -/
import Derived.Deep.AppendLies
import Derived.Test.YtgeoffpcmkofkaaQbk
import Derived.Test.YtgeoffpcmkofkaaQbd
/- What plumbref's 'Hull' answers; rows of numbers that grow. -/
namespace Go.Proofs.Ytgeoffpcmkofkaa
open Go Go.RowKit Fl
set_option maxRecDepth 100000

/-- The numbers of the corners among the first k points. -/
def cornersTo (l : Pts) : Nat → List Nat
  | 0 => []
  | k + 1 => if cornerB l k then cornersTo l k ++ [k] else cornersTo l k
/-- Which point comes first. -/
def lessP (p q : Pt) : Bool := decide (p.1 < q.1) || (decide (p.1 = q.1) && decide (p.2 < q.2))
/-- The least corner, of the first k, from a on. -/
def leastTo (l : Pts) (cs : List Nat) (a : Nat) : Nat → Nat
  | 0 => a
  | k + 1 => match cs[k]? with
    | some c => if lessP (pN l c) (pN l (leastTo l cs a k)) then c else leastTo l cs a k
    | none => leastTo l cs a k
/-- k corners, one behind the other. -/
def goRound (l : Pts) (cs : List Nat) (a : Nat) : Nat → List Nat
  | 0 => []
  | k + 1 => a :: goRound l cs (nextN l cs a) k
def refHull (l : Pts) : List Nat :=
  match cornersTo l l.length with
  | [] => if l = [] then [] else [0]
  | c :: cs => goRound l (c :: cs) (leastTo l (c :: cs) c (c :: cs).length) (c :: cs).length

theorem cornersTo_lt (l : Pts) : ∀ k, ∀ n ∈ cornersTo l k, n < k
  | 0 => by simp [cornersTo]
  | k + 1 => by
    intro n hn
    unfold cornersTo at hn
    split at hn
    · rcases List.mem_append.1 hn with h | h
      · have := cornersTo_lt l k n h; omega
      · have : n = k := by simpa using h
        omega
    · have := cornersTo_lt l k n hn; omega
theorem cornersTo_len (l : Pts) : ∀ k, (cornersTo l k).length ≤ k
  | 0 => by simp [cornersTo]
  | k + 1 => by
    have := cornersTo_len l k
    unfold cornersTo
    split
    · simp; omega
    · omega
/-- A row of numbers that the call has made. -/
def OwnN (w : World) (base : Nat) (v : Value) (cs : List Nat) : Prop := w.ownsRow base 3 1 v cs.length (cs.map fun (n : Nat) => Value.int .i64 (n : Int))
theorem OwnN.new {w w' : World} {base : Nat} {v : Value} {cs : List Nat} (h : OwnN w base v cs) (hg : New w w') : OwnN w' base v cs := World.ownsRow.kept h hg (by cases v.ownBlock <;> simp)
theorem OwnN.nil (w : World) (base : Nat) : OwnN w base (.slice none 0 0) [] := World.ownsRow_nil _ _ _ _
theorem OwnN.form {w : World} {base : Nat} {v : Value} {cs : List Nat} (h : OwnN w base v cs) : (v = .slice none 0 0 ∧ cs = []) ∨ ∃ g cap, v = .slice (some ⟨g, 0, none⟩) cs.length cap ∧ base ≤ g ∧ g < w.heap.size := by
  rcases h.2 with ⟨e, hn⟩ | ⟨g, cap, cur, e, hb, hg, _⟩
  · exact .inl ⟨e, List.eq_nil_of_length_eq_zero hn⟩
  · exact .inr ⟨g, cap, e, hb, (Array.getElem?_eq_some_iff.1 hg).1⟩
theorem OwnN.nums {w : World} {base g cap : Nat} {cs : List Nat} (h : OwnN w base (.slice (some ⟨g, 0, none⟩) cs.length cap) cs) : NumsAt w g cs := fun i n hn => by
  have hi := (List.getElem?_eq_some_iff.1 hn).1
  rw [World.ownsRow.cellAt h i (by omega)]
  simp [hn]
/-- One number more. -/
theorem OwnN.push {w wr : World} {v : Value} {cs : List Nat} (hn : New w wr) (ho : OwnN wr w.heap.size v cs) (n : Nat) (hl : cs.length ≤ 1000000) :
    ∃ vk wk, (Builtin.append_ #[46, 46] 46 #[v, .slice (some ⟨wr.heap.size, 0, none⟩) 1 1]).run Try.prog (wr.alloc (.cells #[.int .i64 (n : Int)] 3)) = .ok vk wk ∧ Hid (New w wk ∧ OwnN wk w.heap.size vk (cs ++ [n])) := by
  obtain ⟨i0, hi0, hz0, hz1, hz2⟩ := info_parts Try.info3
  obtain ⟨vk, wk, k1, k2, k3, k4⟩ := run_append_own (P := Try.prog) (wr.alloc (.cells #[.int .i64 (n : Int)] 3)) w.heap.size 46 46 3 i0 _ 1 8 Try.underlying46 hi0 hz0 hz1 hz2 rfl (by omega) v cs.length (cs.map fun (n : Nat) => Value.int .i64 (n : Int)) (ho.new (New.alloc _ _)) ⟨wr.heap.size, 0, none⟩ 1 1 [.int .i64 (n : Int)] rfl
    (World.news_of_block (cs := #[.int .i64 (n : Int)]) (t := 3) (fr := (0, 0)) (heap_alloc_new wr _)) (by simp [Value.oneCell']) (by unfold maxLen; omega) (by omega) (by have := hn.size; simp; omega)
  refine ⟨vk, wk, k1, (hn.alloc' _).trans k3 fun g hg => ?_, ?_⟩
  · rcases Nat.lt_or_ge g w.heap.size with h1 | h1
    · exact absurd hg.symm (own_ne ho h1)
    · exact h1
  · unfold OwnN
    rw [List.map_append, List.length_append]
    exact k2
end Go.Proofs.Ytgeoffpcmkofkaa
