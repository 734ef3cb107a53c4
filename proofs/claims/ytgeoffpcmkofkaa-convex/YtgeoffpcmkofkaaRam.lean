/- Ob; Oc; Qa: texts laid into one. -/
import Derived.Test.YtgeoffpcmkofkaaRaj
import Derived.Test.YtgeoffpcmkofkaaRak
import Derived.Test.YtgeoffpcmkofkaaRal
import Derived.Sort.OwnSorted
import Derived.Lib.SliceRun
/- The library's sort by a comparison, over rows of points, of directed sides and of triangles. -/
namespace Go.Proofs.Ytgeoffpcmkofkaa
open Go.RowKit Fl Go.Sort Go.Shelf Go.Lib
set_option maxRecDepth 100000

theorem flat_length {α : Type} {enc : α → List Value} {k : Nat} (hk : ∀ x, (enc x).length = k) : ∀ l : List α, (l.flatMap enc).length = l.length * k
  | [] => by simp
  | x :: l => by simp [List.flatMap_cons, flat_length hk l, hk, Nat.add_mul]; omega
section
variable {α : Type} [Inhabited α] {enc : α → List Value} {k : Nat}
theorem flat_get (hk : ∀ x, (enc x).length = k) : ∀ (l : List α) (t : Nat), t < l.length * k → (l.flatMap enc)[t]? = (enc l.toArray[t / k]!)[t % k]?
  | [], t, h => by simp at h
  | x :: l, t, h => by
    have k0 : 0 < k := by
      rcases Nat.eq_zero_or_pos k with h0 | h0
      · subst h0; simp at h
      · exact h0
    rw [List.flatMap_cons]
    rcases Nat.lt_or_ge t k with h1 | h1
    · rw [List.getElem?_append_left (by rw [hk]; exact h1), Nat.div_eq_of_lt h1, Nat.mod_eq_of_lt h1]
      rfl
    · obtain ⟨d, rfl⟩ := Nat.exists_eq_add_of_le h1
      rw [List.getElem?_append_right (by rw [hk]; exact h1), hk, Nat.add_sub_cancel_left, flat_get hk l d (by simp [Nat.add_mul] at h; omega)]
      rw [Nat.add_div_left _ k0, Nat.add_mod_left]
      simp
theorem flatK_list (hk : ∀ x, (enc x).length = k) (l : List α) : (flatK enc k l.toArray).toList = l.flatMap enc := by
  apply List.ext_getElem?
  intro t
  rcases Nat.lt_or_ge t (l.length * k) with h | h
  · rw [flat_get hk l t h]
    have k0 : 0 < k := by
      rcases Nat.eq_zero_or_pos k with h0 | h0
      · subst h0; simp at h
      · exact h0
    have hm : t % k < (enc l.toArray[t / k]!).length := by rw [hk]; exact Nat.mod_lt _ k0
    have hs : t < (flatK enc k l.toArray).size := by simp [h]
    rw [Array.getElem?_toList, Array.getElem?_eq_getElem hs, List.getElem?_eq_getElem hm]
    have := get_flatK enc k l.toArray t (by simpa using h)
    rw [getElem!_pos (flatK enc k l.toArray) t hs] at this
    rw [this, getElem!_pos (enc l.toArray[t / k]!) (t % k) hm]
  · rw [List.getElem?_eq_none (by simpa using h), List.getElem?_eq_none (by rw [flat_length hk]; exact h)]

theorem holdsK_row (hk : ∀ x, (enc x).length = k) {w : World} {base e g n cap : Nat} {l : List α} (h : w.ownsRow base e k (.slice (some ⟨g, 0, none⟩) n cap) n (l.flatMap enc)) (hl : l.length = n) : HoldsK enc k w g 0 l.toArray := by
  intro j hj
  have hj' : j < n * k := by simpa [hl] using hj
  have hc := h.cellAt j hj'
  rcases h.2 with ⟨h', _⟩ | ⟨g', cap', cur, h', _, hg, _⟩
  · simp at h'
  · simp only [Value.slice.injEq, Option.some.injEq, Addr.mk.injEq, and_true, true_and] at h'
    obtain ⟨rfl, _⟩ := h'
    refine ⟨?_, by simp [World.frozen?, hg]⟩
    rw [Nat.zero_add, hc, ← flatK_list hk, Array.getElem?_toList, Array.getElem?_eq_getElem hj, getElem!_pos _ j hj]
    rfl

/-- What the sort leaves. -/
theorem sorted_row (hk : ∀ x, (enc x).length = k) {w : World} {base e g n cap m : Nat} {os : Array Obj} {l l' : List α} (h : w.ownsRow base e k (.slice (some ⟨g, 0, none⟩) n cap) n (l.flatMap enc)) (hl : l.length = n) (hl' : l'.length = n) :
    (sortWorldK enc k w g 0 m l'.toArray os).ownsRow base e k (.slice (some ⟨g, 0, none⟩) n cap) n (l'.flatMap enc) ∧ w.grownBy (sortWorldK enc k w g 0 m l'.toArray os) (some g) := by
  have hH := holdsK_row hk h hl
  rcases h.2 with ⟨h', _⟩ | ⟨g', cap', cur, h', hb, hg, h3, h4, h5, h6⟩
  · simp at h'
  · simp only [Value.slice.injEq, Option.some.injEq, Addr.mk.injEq, and_true, true_and] at h'
    obtain ⟨rfl, rfl⟩ := h'
    have hlt : g < w.heap.size := (Array.getElem?_eq_some_iff.1 hg).1
    have hheap : (sortWorldK enc k w g 0 m l'.toArray os).heap[g]? = some (.cells (putCells id 0 (flatK enc k l'.toArray) cur) e (0, 0)) := by
      unfold sortWorldK putRowK
      rw [heap_grow_old _ _ (by simpa using hlt)]
      simp [putRow, mapBlock, Sort.ahead, Array.getElem?_modify, hg, onCells]
    have hH' := holdsK_sortWorldK enc k w g 0 m l.toArray l'.toArray os hlt hH (by simp [hl, hl'])
    refine ⟨⟨by rw [flat_length hk, hl'], .inr ⟨g, cap, _, rfl, hb, hheap, h3, h4, by simp [putCells, h5], ?_⟩⟩, rfl, rfl, rfl, ?_, fun j hj hne => ?_⟩
    · apply List.ext_getElem?
      intro j
      rcases Nat.lt_or_ge j (n * k) with hj | hj
      · rw [List.getElem?_take_of_lt hj]
        have := (hH' j (by simp [hl', hj])).1
        rw [Nat.zero_add] at this
        simp only [World.cell?, hheap] at this
        simp only [Option.isSome_none, Bool.false_eq_true, if_false] at this
        rw [Array.getElem?_toList, this]
        have hs : j < (flatK enc k l'.toArray).size := by simp [hl', hj]
        rw [← flatK_list hk, Array.getElem?_toList, Array.getElem?_eq_getElem hs, getElem!_pos _ j hs]
        rfl
      · rw [List.getElem?_eq_none (by simp; omega), List.getElem?_eq_none (by rw [flat_length hk, hl']; exact hj)]
    · unfold sortWorldK putRowK putRow mapBlock grow Sort.ahead; simp
    · unfold sortWorldK putRowK
      rw [heap_grow_old _ _ (by simpa using hj)]
      have : g ≠ j := fun e => hne (by rw [e])
      simp [putRow, mapBlock, Sort.ahead, Array.getElem?_modify, this]

theorem permIn_list {l : List α} {d' : Array α} (h : PermIn 0 l.length l.toArray d') : d'.toList.Perm l ∧ d'.toList.length = l.length := by
  have hs : d'.size = l.length := by simpa using h.1
  have := h.2.2
  have e1 : (d'.extract 0 l.length).toList = d'.toList := by rw [← hs]; simp
  have e2 : (l.toArray.extract 0 l.length).toList = l := by simp
  rw [e1, e2] at this
  exact ⟨this, by simpa using hs⟩
theorem sortedIn_list {lt : α → α → Bool} {d' : Array α} {n : Nat} (hn : d'.size = n) (h : SortedIn lt 0 n d') : d'.toList.Pairwise (fun x y => lt y x = false) := by
  rw [List.pairwise_iff_getElem]
  intro i j hi hj hij
  have := h i j (Nat.zero_le _) hij (by simpa [hn] using hj)
  rw [getElem!_pos d' i (by simpa using hi), getElem!_pos d' j (by simpa using hj)] at this
  simpa using this
end

end Go.Proofs.Ytgeoffpcmkofkaa
/- What the library's sort makes of points, of directed sides and of triangles. -/
namespace Go.Proofs.Ytgeoffpcmkofkaa
open Go.RowKit Fl Go.Sort Go.Shelf Go.Lib
set_option maxRecDepth 100000

def encP (p : Pt) : List Value := [.int .i64 p.1, .int .i64 p.2]
theorem orI_neg (s t : Int) : orI s t < 0 ↔ s < 0 ∨ s = 0 ∧ t < 0 := by
  unfold orI; split <;> omega
theorem orI_zero (s t : Int) : orI s t = 0 ↔ s = 0 ∧ t = 0 := by
  unfold orI; split <;> omega
theorem cmpP_neg (a b : Pt) : cmpP a b < 0 ↔ a.1 < b.1 ∨ a.1 = b.1 ∧ a.2 < b.2 := by
  unfold cmpP
  rw [orI_neg, sgn_neg', sgn_zero, sgn_neg']
  omega
theorem cmpP_zero (a b : Pt) : cmpP a b = 0 ↔ a = b := by
  unfold cmpP
  rw [orI_zero, sgn_zero, sgn_zero]
  constructor
  · rintro ⟨h1, h2⟩; exact pt_ext (by omega) (by omega)
  · rintro rfl; omega
theorem ltOf_iff {α : Type} (cf : α → α → Int) (x y : α) : ltOf cf x y = true ↔ cf x y < 0 := by simp [ltOf]
theorem ltOf_not {α : Type} (cf : α → α → Int) (x y : α) : ltOf cf x y = false ↔ ¬cf x y < 0 := by simp [ltOf]

theorem swoP : SWO (ltOf cmpP) where
  irrefl x := by rw [ltOf_not, cmpP_neg]; omega
  trans x y z h1 h2 := by rw [ltOf_iff, cmpP_neg] at *; omega
  ntrans x y z h1 h2 := by rw [ltOf_not, cmpP_neg] at *; omega
theorem pt_eq_iff (p q : Pt) : p = q ↔ p.1 = q.1 ∧ p.2 = q.2 := ⟨fun h => by rw [h]; exact ⟨rfl, rfl⟩, fun h => pt_ext h.1 h.2⟩
theorem laysP (blk off size : Nat) (w : World) : CmpLays Try.prog 85 #[] encP 2 cmpP blk off size w :=
  fun _ _ _ _ x y => (compare_gr x.1 x.2 y.1 y.2 _).mono fun _ _ h => ⟨h.1, h.2.out⟩
theorem lenP (x : Pt) : (encP x).length = 2 := rfl
theorem sortP_any (base g cap : Nat) (l : List Pt) (w : World) (h : w.ownsRow base 23 2 (.slice (some ⟨g, 0, none⟩) l.length cap) l.length (l.flatMap encP)) (hg : g < w.heap.size) (hl : l.length < 4611686018427387904) :
    Calls Try.prog 101 #[.slice (some ⟨g, 0, none⟩) l.length cap, .func (.func 85) #[] #[]] w fun e w' => e = .returned (.tuple #[]) ∧
      Hid (∃ l' : List Pt, l'.Perm l ∧ l'.Pairwise (fun x y => ltOf cmpP y x = false) ∧ w'.ownsRow base 23 2 (.slice (some ⟨g, 0, none⟩) l.length cap) l.length (l'.flatMap encP) ∧ w.grownBy w' (some g)) := by
  have eg : ∀ args w, (callFunc 85 args).run Try.prog w = .ok (.enter 85 args) w := enters_of Try.func85 (by kernel_rfl) rfl
  have hc := AnyQ.slices_SortFunc Try.sortP 2 Try.isAgg23 Try.sizeOf23 encP lenP (fun x v hv => by simp [encP] at hv; rcases hv with rfl | rfl <;> rfl) cmpP swoP 85 #[] g 0 cap l.toArray w eg (laysP _ _ _ _) (holdsK_row lenP h rfl) hg (by simpa using hl)
  change Calls Try.prog 101 _ _ _ at hc
  refine hc.mono fun e w' hh => ?_
  obtain ⟨he, d', m, os, hp, hs, rfl⟩ := hh
  have hp' := permIn_list hp
  have hs' := sortedIn_list (n := l.length) (by simpa using hp.1) hs
  have hr := sorted_row lenP (m := m) (os := os) (l' := d'.toList) h rfl hp'.2
  refine ⟨he, d'.toList, hp'.1, hs', ?_⟩
  simpa using hr
end Go.Proofs.Ytgeoffpcmkofkaa
/- The walks of 'Clone' and 'Compact' of package slices, at points. -/
namespace Go.Proofs.Ytgeoffpcmkofkaa
open Go.RowKit Fl
set_option maxRecDepth 100000
attribute [local go_sem ↓] Go.wp_at_zero Go.wp_at_succ

theorem flatP_eq : ∀ l : Pts, flatP l = l.flatMap encP
  | [] => rfl
  | p :: l => by simp [flatP, encP, flatP_eq l]
/-- A row of points, which the call has made. -/
def OwnP (w : World) (base : Nat) (v : Value) (l : Pts) : Prop := w.ownsRow base 23 2 v l.length (l.flatMap encP)
theorem encP_one : ∀ (l : Pts), ∀ v ∈ l.flatMap encP, v.oneCell' = true := by
  intro l; rw [← flatP_eq]; exact flatP_one l
theorem OwnP.cell {w : World} {base g cap : Nat} {l : Pts} (h : OwnP w base (.slice (some ⟨g, 0, none⟩) l.length cap) l) {i : Nat} (hi : i < l.length) :
    w.cell? ⟨g, i * 2, none⟩ = some (.int .i64 l[i].1) ∧ w.cell? ⟨g, i * 2 + 1, none⟩ = some (.int .i64 l[i].2) := by
  have := flatP_get l i hi
  rw [flatP_eq] at this
  exact ⟨(World.ownsRow.cellAt h (i * 2) (by omega)).trans this.1, (World.ownsRow.cellAt h (i * 2 + 1) (by omega)).trans this.2⟩
theorem OwnP.form {w : World} {base : Nat} {v : Value} {l : Pts} (h : OwnP w base v l) : (v = .slice none 0 0 ∧ l = []) ∨ ∃ g cap, v = .slice (some ⟨g, 0, none⟩) l.length cap ∧ base ≤ g ∧ g < w.heap.size ∧ l.length ≤ cap ∧ cap ≤ maxLen := by
  rcases h.2 with ⟨e, hn⟩ | ⟨g, cap, cur, e, hb, hg, h1, h2, _⟩
  · exact .inl ⟨e, List.eq_nil_of_length_eq_zero hn⟩
  · exact .inr ⟨g, cap, e, hb, (Array.getElem?_eq_some_iff.1 hg).1, h1, h2⟩
theorem OwnP.new {w w' : World} {base : Nat} {v : Value} {l : Pts} (h : OwnP w base v l) (hg : New w w') : OwnP w' base v l := World.ownsRow.kept h hg (by cases v.ownBlock <;> simp)
theorem OwnP.pts {w : World} {base g cap : Nat} {l : Pts} (h : OwnP w base (.slice (some ⟨g, 0, none⟩) l.length cap) l) : PtsAt w g 0 l := by
  intro i hi
  rw [Nat.zero_add]
  exact h.cell hi

theorem flat_set (l : Pts) (k : Nat) (p : Pt) (hk : k < l.length) : (l.set k p).flatMap encP = ((l.flatMap encP).set (k * 2) (.int .i64 p.1)).set (k * 2 + 1) (.int .i64 p.2) := by
  induction l generalizing k with
  | nil => simp at hk
  | cons a l ih =>
    cases k with
    | zero => simp [encP]
    | succ k =>
      have := ih k (by simpa using hk)
      have e1 : (k + 1) * 2 = k * 2 + 1 + 1 := by omega
      rw [e1]
      simp only [List.set_cons_succ, List.flatMap_cons, this]
      simp [encP]
theorem OwnP.set {w : World} {base g cap : Nat} {l : Pts} (h : OwnP w base (.slice (some ⟨g, 0, none⟩) l.length cap) l) {k : Nat} (hk : k < l.length) (p : Pt) :
    OwnP ((w.setCell ⟨g, k * 2, none⟩ (.int .i64 p.1)).setCell ⟨g, k * 2 + 1, none⟩ (.int .i64 p.2)) base (.slice (some ⟨g, 0, none⟩) l.length cap) (l.set k p) ∧ w.grownBy ((w.setCell ⟨g, k * 2, none⟩ (.int .i64 p.1)).setCell ⟨g, k * 2 + 1, none⟩ (.int .i64 p.2)) (some g) := by
  have s1 := World.ownsRow.stored h (k * 2) (.int .i64 p.1)
  have s2 := World.ownsRow.stored s1.1 (k * 2 + 1) (.int .i64 p.2)
  refine ⟨?_, s1.2.trans s2.2⟩
  unfold OwnP
  rw [flat_set l k p hk, List.length_set]
  exact s2.1

end Go.Proofs.Ytgeoffpcmkofkaa
