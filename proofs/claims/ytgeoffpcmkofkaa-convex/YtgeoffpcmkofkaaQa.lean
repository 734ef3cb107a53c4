/- The walks of 'Clone' and 'Compact' of package slices, at points. -/
import Derived.Test.YtgeoffpcmkofkaaOc
import Derived.Lib.SliceRun
namespace Go.Proofs.Ytgeoffpcmkofkaa
open Go.RowKit Fl
set_option maxRecDepth 100000
attribute [local go_sem ↓] Go.wp_at_zero Go.wp_at_succ

theorem flatP_eq : ∀ l : Pts, flatP l = l.flatMap encP
  | [] => rfl
  | p :: l => by simp [flatP, encP, flatP_eq l]
/-- A row of points, which the call has made. -/
def OwnP (w : World) (base : Nat) (v : Value) (l : Pts) : Prop := w.ownsRow base 23 2 v l.length (l.flatMap encP)
theorem encP_one : ∀ (l : Pts), ∀ v ∈ l.flatMap encP, v.oneCell' = true := by
  intro l; rw [← flatP_eq]; exact flatP_one l
theorem OwnP.cell {w : World} {base g cap : Nat} {l : Pts} (h : OwnP w base (.slice (some ⟨g, 0, none⟩) l.length cap) l) {i : Nat} (hi : i < l.length) :
    w.cell? ⟨g, i * 2, none⟩ = some (.int .i64 l[i].1) ∧ w.cell? ⟨g, i * 2 + 1, none⟩ = some (.int .i64 l[i].2) := by
  have := flatP_get l i hi
  rw [flatP_eq] at this
  exact ⟨(World.ownsRow.cellAt h (i * 2) (by omega)).trans this.1, (World.ownsRow.cellAt h (i * 2 + 1) (by omega)).trans this.2⟩
theorem OwnP.form {w : World} {base : Nat} {v : Value} {l : Pts} (h : OwnP w base v l) : (v = .slice none 0 0 ∧ l = []) ∨ ∃ g cap, v = .slice (some ⟨g, 0, none⟩) l.length cap ∧ base ≤ g ∧ g < w.heap.size ∧ l.length ≤ cap ∧ cap ≤ maxLen := by
  rcases h.2 with ⟨e, hn⟩ | ⟨g, cap, cur, e, hb, hg, h1, h2, _⟩
  · exact .inl ⟨e, List.eq_nil_of_length_eq_zero hn⟩
  · exact .inr ⟨g, cap, e, hb, (Array.getElem?_eq_some_iff.1 hg).1, h1, h2⟩
theorem OwnP.new {w w' : World} {base : Nat} {v : Value} {l : Pts} (h : OwnP w base v l) (hg : New w w') : OwnP w' base v l := World.ownsRow.kept h hg (by cases v.ownBlock <;> simp)
theorem OwnP.pts {w : World} {base g cap : Nat} {l : Pts} (h : OwnP w base (.slice (some ⟨g, 0, none⟩) l.length cap) l) : PtsAt w g 0 l := by
  intro i hi
  rw [Nat.zero_add]
  exact h.cell hi

theorem flat_set (l : Pts) (k : Nat) (p : Pt) (hk : k < l.length) : (l.set k p).flatMap encP = ((l.flatMap encP).set (k * 2) (.int .i64 p.1)).set (k * 2 + 1) (.int .i64 p.2) := by
  induction l generalizing k with
  | nil => simp at hk
  | cons a l ih =>
    cases k with
    | zero => simp [encP]
    | succ k =>
      have := ih k (by simpa using hk)
      have e1 : (k + 1) * 2 = k * 2 + 1 + 1 := by omega
      rw [e1]
      simp only [List.set_cons_succ, List.flatMap_cons, this]
      simp [encP]
theorem OwnP.set {w : World} {base g cap : Nat} {l : Pts} (h : OwnP w base (.slice (some ⟨g, 0, none⟩) l.length cap) l) {k : Nat} (hk : k < l.length) (p : Pt) :
    OwnP ((w.setCell ⟨g, k * 2, none⟩ (.int .i64 p.1)).setCell ⟨g, k * 2 + 1, none⟩ (.int .i64 p.2)) base (.slice (some ⟨g, 0, none⟩) l.length cap) (l.set k p) ∧ w.grownBy ((w.setCell ⟨g, k * 2, none⟩ (.int .i64 p.1)).setCell ⟨g, k * 2 + 1, none⟩ (.int .i64 p.2)) (some g) := by
  have s1 := World.ownsRow.stored h (k * 2) (.int .i64 p.1)
  have s2 := World.ownsRow.stored s1.1 (k * 2 + 1) (.int .i64 p.2)
  refine ⟨?_, s1.2.trans s2.2⟩
  unfold OwnP
  rw [flat_set l k p hk, List.length_set]
  exact s2.1

end Go.Proofs.Ytgeoffpcmkofkaa
