/- For Hulls: what stands between its calls. -/
import Derived.Test.YtgeoffpcmkofkaaHl
import Derived.Test.YtgeoffpcmkofkaaNh
import Derived.Lib.SmallJoins
namespace Go.Proofs.Ytgeoffpcmkofkaa
open Go Go.Conc Go.RowKit Fl Go.Maps Go.Joins
set_option maxRecDepth 100000

/-- What plumb.Hull answers. -/
def ansL (l : Pts) : List Nat := if errL l = 0 then refHull l else []
theorem ansL_len (l : Pts) : (ansL l).length ≤ 40 := by
  unfold ansL
  split
  · rename_i h
    have := refHull_len l
    have := (errL_zero h).1
    omega
  · simp
/-- plumb.Hull, told once. -/
theorem A.hullA {Post : Value → World → Prop} {lv : Value} {l : Pts} {w : World} {x : Frame} {cs : List Frame} (hlv : RowL w lv l) (hG : GN ≤ w.heap.size)
    (h : ∀ v w', Kept w w' → OwnN w' w.heap.size v (ansL l) → A Try.prog Post (x.finish (.tuple #[v, .int .i64 (errL l)])) cs w') :
    A Try.prog Post (Frame.enter Try.prog 32 #[lv] .normal) (x :: cs) w := by
  refine A.hull hlv hG (fun he w' hk => h _ w' hk ?_) (fun he v w' hO => ?_)
  · unfold ansL
    rw [if_neg he]
    exact OwnN.nil _ _
  · have := h v w' hO.kept (by
      unfold ansL OwnN
      rw [if_pos he]
      have e := refHull_same (errL_zero he).2
      have r := hO.row
      rw [e] at r
      simpa using r)
    rw [he] at this
    exact this
theorem OwnN.ints {w : World} {base : Nat} {v : Value} {cs : List Nat} (h : OwnN w base v cs) : ∃ ao c, v = .slice ao (cs.map fun (n : Nat) => (n : Int)).length c ∧ IntsAt w ao (cs.map fun (n : Nat) => (n : Int)) := by
  rcases h.form with ⟨e, e2⟩ | ⟨g, cap, e, _, _⟩
  · subst e2
    exact ⟨none, 0, e, fun h0 => by simp at h0⟩
  · refine ⟨_, cap, by rw [List.length_map]; exact e, fun _ => ⟨g, rfl, fun i x hx => ?_⟩⟩
    subst e
    rw [List.getElem?_map] at hx
    obtain ⟨n, hn, rfl⟩ := Option.map_eq_some_iff.1 hx
    exact h.nums i n hn
/-- The blocks below a bound are kept. -/
structure KeptTo (N : Nat) (w w' : World) : Prop where
  os : w'.os = w.os
  output : w'.output = w.output
  size : w.heap.size ≤ w'.heap.size
  block : ∀ r, r < N → w'.heap[r]? = w.heap[r]?
theorem KeptTo.refl (N : Nat) (w : World) : KeptTo N w w := ⟨rfl, rfl, Nat.le_refl _, fun _ _ => rfl⟩
theorem KeptTo.trans {N : Nat} {w w1 w2 : World} (h : KeptTo N w w1) (k : KeptTo N w1 w2) : KeptTo N w w2 := ⟨k.os.trans h.os, k.output.trans h.output, Nat.le_trans h.size k.size, fun r hr => (k.block r hr).trans (h.block r hr)⟩
theorem Kept.to {N : Nat} {w w' : World} (h : Kept w w') (hN : N ≤ w.heap.size) : KeptTo N w w' := ⟨h.os, h.output, h.size, fun r hr => h.block r (by omega)⟩
theorem KeptTo.same {N : Nat} {w w1 w2 : World} (h : KeptTo N w w1) (k : Same w1 w2) : KeptTo N w w2 := h.trans ⟨k.os, k.output, by rw [k.heap]; exact Nat.le_refl _, fun r _ => by rw [k.heap]⟩
theorem KeptTo.grown {N : Nat} {w w' : World} {row : Option Nat} (h : w.grownBy w' row) (hN : N ≤ w.heap.size) (hr : ∀ g, row = some g → N ≤ g) : KeptTo N w w' :=
  ⟨h.os, h.output, h.size, fun r hr' => h.block r (by omega) fun e => by have := hr r e.symm; omega⟩
theorem KeptTo.kept {N : Nat} {W w w' : World} (h : Kept W w) (k : KeptTo N w w') (hN : W.heap.size ≤ N) : Kept W w' :=
  ⟨k.os.trans h.os, k.output.trans h.output, Nat.le_trans h.size k.size, fun r hr => (k.block r (by omega)).trans (h.block r hr)⟩
theorem OwnN.to {w w' : World} {base N : Nat} {v : Value} {cs : List Nat} (h : OwnN w base v cs) (k : KeptTo N w w') (hN : ∀ g, v.ownBlock = some g → g < N) : OwnN w' base v cs := by
  refine ⟨h.1, ?_⟩
  rcases h.2 with ⟨e, hn⟩ | ⟨g, cap, cur, e, hb, hg, rest⟩
  · exact .inl ⟨e, hn⟩
  · exact .inr ⟨g, cap, cur, e, hb, by rw [k.block g (hN g (by rw [e]; rfl))]; exact hg, rest⟩
theorem OwnN.lt {w : World} {base : Nat} {v : Value} {cs : List Nat} (h : OwnN w base v cs) : ∀ g, v.ownBlock = some g → base ≤ g ∧ g < w.heap.size := by
  intro g hg
  rcases h.form with ⟨e, _⟩ | ⟨g', cap, e, h1, h2⟩
  · rw [e] at hg; cases hg
  · rw [e] at hg
    injection hg with hg
    subst hg
    exact ⟨h1, h2⟩
theorem OwnN.le {w : World} {base base' : Nat} {v : Value} {cs : List Nat} (h : OwnN w base v cs) (hb : base' ≤ base) : OwnN w base' v cs := ownsRow_le h hb
theorem PolyAt.keptB {w w' : World} {ao : Option Addr} {l : Pts} (h : PolyAt w ao l) (k : Kept w w') : PolyAt w' ao l := fun h0 => by
  obtain ⟨g, off, h1, h2, h3⟩ := h h0
  exact ⟨g, off, h1, h2.heap (k.block g h3), Nat.lt_of_lt_of_le h3 k.size⟩
/-- What stands behind 'lent'. -/
structure S9 (W : World) (ao : Option Addr) (cap : Nat) (l : Pts) (wv inV : Value) (b N : Nat) (w : World) : Prop where
  kept : Kept W w
  n1 : W.heap.size ≤ N
  n2 : N ≤ w.heap.size
  b2 : b < N
  gb : GN ≤ b
  want : OwnN w W.heap.size wv (ansL l)
  wantN : ∀ g, wv.ownBlock = some g → g < N
  blk : w.heap[b]? = some (.cells (flatP (l ++ [(0, 0)])).toArray 23 (0, 0))
  inF : (inV = .slice none 0 0 ∧ l = []) ∨ inV = .slice (some ⟨b, 0, none⟩) l.length (l.length + 1)
  poly : PolyAt W ao l
  cap1 : l.length ≤ cap
  cap2 : cap ≤ 10000000000000
section
variable {W : World} {ao : Option Addr} {cap : Nat} {l : Pts} {wv inV : Value} {b N : Nat} {w w' : World}
theorem S9.to (h : S9 W ao cap l wv inV b N w) (k : KeptTo N w w') : S9 W ao cap l wv inV b N w' :=
  ⟨k.kept h.kept h.n1, h.n1, Nat.le_trans h.n2 k.size, h.b2, h.gb, h.want.to k h.wantN, h.wantN, by rw [k.block b h.b2]; exact h.blk, h.inF, h.poly, h.cap1, h.cap2⟩
theorem S9.all (h : S9 W ao cap l wv inV b N w) : PtsAt w b 0 (l ++ [(0, 0)]) := pts_row h.blk rfl
theorem S9.args (h : S9 W ao cap l wv inV b N w) : PolyAt w ao l := h.poly.keptB h.kept
theorem flatP_ints : ∀ (l : Pts), ∀ x ∈ flatP l, ∃ n, x = .int .i64 n
  | [], x, h => by simp [flatP] at h
  | p :: l, x, h => by
    simp only [flatP, List.mem_cons] at h
    rcases h with rfl | rfl | h
    · exact ⟨_, rfl⟩
    · exact ⟨_, rfl⟩
    · exact flatP_ints l x h
theorem S9.row (h : S9 W ao cap l wv inV b N w) : RowL w inV l := by
  rcases h.inF with ⟨h1, h2⟩ | h1
  · exact .inl ⟨h1, h2⟩
  · refine .inr ⟨b, l.length + 1, _, h1, by omega, h.blk, fun x hx => flatP_ints _ x (by simpa using hx), h.gb, fun i hi => ?_⟩
    have := flatP_get (l ++ [(0, 0)]) i (by simp; omega)
    rw [List.getElem_append_left hi] at this
    simpa using this
end
/-- 'lent', of any list. -/
theorem lent_poly (ao : Option Addr) (cap : Nat) (l : Pts) (w : World) (h : PolyAt w ao l) (hs : cap ≤ 10000000000000) (hc : l.length ≤ cap) (hn : ao = none → cap = 0) :
    Calls Try.prog 26 #[.slice ao l.length cap] w fun e w' => ∃ inV, e = .returned (.tuple #[.slice (some ⟨w.heap.size, 0, none⟩) (l.length + 1) (l.length + 1), inV]) ∧ ((inV = .slice none 0 0 ∧ l = []) ∨ inV = .slice (some ⟨w.heap.size, 0, none⟩) l.length (l.length + 1)) ∧ Hid (Lent w w' l) := by
  cases ao with
  | none =>
    have hcap := hn rfl
    have hl : l = [] := List.eq_nil_of_length_eq_zero (by omega)
    subst hl hcap
    refine (lent_nil w).mono ?_
    rintro e w' ⟨rfl, H⟩
    exact ⟨_, rfl, .inl ⟨rfl, rfl⟩, H⟩
  | some a =>
    refine (lent_some a cap l w h hs hc).mono ?_
    rintro e w' ⟨rfl, H⟩
    exact ⟨_, rfl, .inr rfl, H⟩
theorem Lent.heap {w w1 w2 : World} {l : Pts} (h : Lent w w1 l) (k : Same w1 w2) : w2.heap[w.heap.size]? = some (.cells (flatP (l ++ [(0, 0)])).toArray 23 (0, 0)) := by rw [k.heap]; exact h.row
end Go.Proofs.Ytgeoffpcmkofkaa
