/- Ob; Nc; Nd; Oc; Qa; Qb: texts laid into one. -/
import Derived.Test.YtgeoffpcmkofkaaGreatQah
import Derived.Test.YtgeoffpcmkofkaaGreatQaf
import Derived.Sort.OwnSorted
import Derived.Test.YtgeoffpcmkofkaaGreatQae
import Derived.Deep.DeepCutAuto
import Derived.Deep.RegionHeld3
import Derived.Lib.SliceRun
/- The library's sort by a comparison, over rows of points, of directed sides and of triangles. -/
namespace Go.Proofs.YtgeoffpcmkofkaaGreat
open Go.RowKit Fl Go.Sort Go.Shelf Go.Lib
set_option maxRecDepth 100000

theorem flat_length {α : Type} {enc : α → List Value} {k : Nat} (hk : ∀ x, (enc x).length = k) : ∀ l : List α, (l.flatMap enc).length = l.length * k
  | [] => by simp
  | x :: l => by simp [List.flatMap_cons, flat_length hk l, hk, Nat.add_mul]; omega
section
variable {α : Type} [Inhabited α] {enc : α → List Value} {k : Nat}
theorem flat_get (hk : ∀ x, (enc x).length = k) : ∀ (l : List α) (t : Nat), t < l.length * k → (l.flatMap enc)[t]? = (enc l.toArray[t / k]!)[t % k]?
  | [], t, h => by simp at h
  | x :: l, t, h => by
    have k0 : 0 < k := by
      rcases Nat.eq_zero_or_pos k with h0 | h0
      · subst h0; simp at h
      · exact h0
    rw [List.flatMap_cons]
    rcases Nat.lt_or_ge t k with h1 | h1
    · rw [List.getElem?_append_left (by rw [hk]; exact h1), Nat.div_eq_of_lt h1, Nat.mod_eq_of_lt h1]
      rfl
    · obtain ⟨d, rfl⟩ := Nat.exists_eq_add_of_le h1
      rw [List.getElem?_append_right (by rw [hk]; exact h1), hk, Nat.add_sub_cancel_left, flat_get hk l d (by simp [Nat.add_mul] at h; omega)]
      rw [Nat.add_div_left _ k0, Nat.add_mod_left]
      simp
theorem flatK_list (hk : ∀ x, (enc x).length = k) (l : List α) : (flatK enc k l.toArray).toList = l.flatMap enc := by
  apply List.ext_getElem?
  intro t
  rcases Nat.lt_or_ge t (l.length * k) with h | h
  · rw [flat_get hk l t h]
    have k0 : 0 < k := by
      rcases Nat.eq_zero_or_pos k with h0 | h0
      · subst h0; simp at h
      · exact h0
    have hm : t % k < (enc l.toArray[t / k]!).length := by rw [hk]; exact Nat.mod_lt _ k0
    have hs : t < (flatK enc k l.toArray).size := by simp [h]
    rw [Array.getElem?_toList, Array.getElem?_eq_getElem hs, List.getElem?_eq_getElem hm]
    have := get_flatK enc k l.toArray t (by simpa using h)
    rw [getElem!_pos (flatK enc k l.toArray) t hs] at this
    rw [this, getElem!_pos (enc l.toArray[t / k]!) (t % k) hm]
  · rw [List.getElem?_eq_none (by simpa using h), List.getElem?_eq_none (by rw [flat_length hk]; exact h)]

theorem holdsK_row (hk : ∀ x, (enc x).length = k) {w : World} {base e g n cap : Nat} {l : List α} (h : w.ownsRow base e k (.slice (some ⟨g, 0, none⟩) n cap) n (l.flatMap enc)) (hl : l.length = n) : HoldsK enc k w g 0 l.toArray := by
  intro j hj
  have hj' : j < n * k := by simpa [hl] using hj
  have hc := h.cellAt j hj'
  rcases h.2 with ⟨h', _⟩ | ⟨g', cap', cur, h', _, hg, _⟩
  · simp at h'
  · simp only [Value.slice.injEq, Option.some.injEq, Addr.mk.injEq, and_true, true_and] at h'
    obtain ⟨rfl, _⟩ := h'
    refine ⟨?_, by simp [World.frozen?, hg]⟩
    rw [Nat.zero_add, hc, ← flatK_list hk, Array.getElem?_toList, Array.getElem?_eq_getElem hj, getElem!_pos _ j hj]
    rfl

/-- What the sort leaves. -/
theorem sorted_row (hk : ∀ x, (enc x).length = k) {w : World} {base e g n cap m : Nat} {os : Array Obj} {l l' : List α} (h : w.ownsRow base e k (.slice (some ⟨g, 0, none⟩) n cap) n (l.flatMap enc)) (hl : l.length = n) (hl' : l'.length = n) :
    (sortWorldK enc k w g 0 m l'.toArray os).ownsRow base e k (.slice (some ⟨g, 0, none⟩) n cap) n (l'.flatMap enc) ∧ w.grownBy (sortWorldK enc k w g 0 m l'.toArray os) (some g) := by
  have hH := holdsK_row hk h hl
  rcases h.2 with ⟨h', _⟩ | ⟨g', cap', cur, h', hb, hg, h3, h4, h5, h6⟩
  · simp at h'
  · simp only [Value.slice.injEq, Option.some.injEq, Addr.mk.injEq, and_true, true_and] at h'
    obtain ⟨rfl, rfl⟩ := h'
    have hlt : g < w.heap.size := (Array.getElem?_eq_some_iff.1 hg).1
    have hheap : (sortWorldK enc k w g 0 m l'.toArray os).heap[g]? = some (.cells (putCells id 0 (flatK enc k l'.toArray) cur) e (0, 0)) := by
      unfold sortWorldK putRowK
      rw [heap_grow_old _ _ (by simpa using hlt)]
      simp [putRow, mapBlock, Sort.ahead, Array.getElem?_modify, hg, onCells]
    have hH' := holdsK_sortWorldK enc k w g 0 m l.toArray l'.toArray os hlt hH (by simp [hl, hl'])
    refine ⟨⟨by rw [flat_length hk, hl'], .inr ⟨g, cap, _, rfl, hb, hheap, h3, h4, by simp [putCells, h5], ?_⟩⟩, rfl, rfl, rfl, ?_, fun j hj hne => ?_⟩
    · apply List.ext_getElem?
      intro j
      rcases Nat.lt_or_ge j (n * k) with hj | hj
      · rw [List.getElem?_take_of_lt hj]
        have := (hH' j (by simp [hl', hj])).1
        rw [Nat.zero_add] at this
        simp only [World.cell?, hheap] at this
        simp only [Option.isSome_none, Bool.false_eq_true, if_false] at this
        rw [Array.getElem?_toList, this]
        have hs : j < (flatK enc k l'.toArray).size := by simp [hl', hj]
        rw [← flatK_list hk, Array.getElem?_toList, Array.getElem?_eq_getElem hs, getElem!_pos _ j hs]
        rfl
      · rw [List.getElem?_eq_none (by simp; omega), List.getElem?_eq_none (by rw [flat_length hk, hl']; exact hj)]
    · unfold sortWorldK putRowK putRow mapBlock grow Sort.ahead; simp
    · unfold sortWorldK putRowK
      rw [heap_grow_old _ _ (by simpa using hj)]
      have : g ≠ j := fun e => hne (by rw [e])
      simp [putRow, mapBlock, Sort.ahead, Array.getElem?_modify, this]

theorem permIn_list {l : List α} {d' : Array α} (h : PermIn 0 l.length l.toArray d') : d'.toList.Perm l ∧ d'.toList.length = l.length := by
  have hs : d'.size = l.length := by simpa using h.1
  have := h.2.2
  have e1 : (d'.extract 0 l.length).toList = d'.toList := by rw [← hs]; simp
  have e2 : (l.toArray.extract 0 l.length).toList = l := by simp
  rw [e1, e2] at this
  exact ⟨this, by simpa using hs⟩
theorem sortedIn_list {lt : α → α → Bool} {d' : Array α} {n : Nat} (hn : d'.size = n) (h : SortedIn lt 0 n d') : d'.toList.Pairwise (fun x y => lt y x = false) := by
  rw [List.pairwise_iff_getElem]
  intro i j hi hj hij
  have := h i j (Nat.zero_le _) hij (by simpa [hn] using hj)
  rw [getElem!_pos d' i (by simpa using hi), getElem!_pos d' j (by simpa using hj)] at this
  simpa using this
end

end Go.Proofs.YtgeoffpcmkofkaaGreat
/- A region of 'flip' that draws its order, by an invariant: two look-ups, laid into two new variables. -/
namespace Go.Proofs.YtgeoffpcmkofkaaGreat
open Go.RowKit Go.Maps Fl
set_option maxRecDepth 100000

theorem pair_cell0 {w : World} {b : Nat} {x y : Value} {t : TypeId} (h : w.heap[b]? = some (.cells #[x, y] t (0, 0))) : w.cell? ⟨b, 0, none⟩ = some x := by simp [World.cell?, h]
theorem pair_cell1 {w : World} {b : Nat} {x y : Value} {t : TypeId} (h : w.heap[b]? = some (.cells #[x, y] t (0, 0))) : w.cell? ⟨b, 1, none⟩ = some y := by simp [World.cell?, h]
theorem pair_free {w : World} {b o : Nat} {x y : Value} {t : TypeId} (h : w.heap[b]? = some (.cells #[x, y] t (0, 0))) : w.frozen? ⟨b, o, none⟩ = false := by simp [World.frozen?, h]
theorem pair_set1 {w : World} {b : Nat} {x y u : Value} {t : TypeId} (h : w.heap[b]? = some (.cells #[x, y] t (0, 0))) : (w.setCell ⟨b, 1, none⟩ u).heap[b]? = some (.cells #[x, u] t (0, 0)) := by
  have hlt := lt_of_block h
  have h' : w.heap[b] = .cells #[x, y] t (0, 0) := by simpa [Array.getElem?_eq_getElem hlt] using h
  show (w.heap.modify b _)[b]? = _
  rw [Array.getElem?_eq_getElem (by simpa using hlt), Array.getElem_modify_self, h']
  rfl
theorem pair_set0 {w : World} {b : Nat} {x y u : Value} {t : TypeId} (h : w.heap[b]? = some (.cells #[x, y] t (0, 0))) : (w.setCell ⟨b, 0, none⟩ u).heap[b]? = some (.cells #[u, y] t (0, 0)) := by
  have hlt := lt_of_block h
  have h' : w.heap[b] = .cells #[x, y] t (0, 0) := by simpa [Array.getElem?_eq_getElem hlt] using h
  show (w.heap.modify b _)[b]? = _
  rw [Array.getElem?_eq_getElem (by simpa using hlt), Array.getElem_modify_self, h']
  rfl
def updN {n : Nat} (f : Fin n → Value) (j : Fin n) (v : Value) : Fin n → Value := fun i => if i = j then v else f i
def zp : Array Value := #[.int .i64 0, .int .i64 0]
def pp (p : Pt) : Array Value := #[.int .i64 p.1, .int .i64 p.2]

/-- What is known when the operations that are listed have come up. -/
structure Duo (W w : World) (x : Fin 2 → Pt) (t : Fin 7 → Value) (listed : Array Bool) (p : Fin 2 → Value) (q : Fin 7 → Value) : Prop where
  new : New W w
  val : ∀ j : Fin 7, listed.getD j.val false = true → q j = t j
  ptr : ∀ j : Fin 2, listed.getD (7 + j.val) false = true → ∃ b, p j = .pointer (some ⟨b, 0, none⟩) ∧ W.heap.size ≤ b ∧
    (listed.getD (9 + j.val) false = false → w.heap[b]? = some (.cells zp 36 (0, 0))) ∧ (listed.getD (9 + j.val) false = true → w.heap[b]? = some (.cells (pp (x j)) 36 (0, 0)))
  dis : ∀ i j : Fin 2, i ≠ j → listed.getD (7 + i.val) false = true → listed.getD (7 + j.val) false = true → p i ≠ p j
  ord : ∀ j : Fin 2, listed.getD (9 + j.val) false = true → listed.getD (7 + j.val) false = true

section
variable {W w w' : World} {x : Fin 2 → Pt} {t : Fin 7 → Value} {listed : Array Bool} {p : Fin 2 → Value} {q : Fin 7 → Value}
theorem Duo.start (hn : New W w) (n : Nat) : Duo W w x t (Array.replicate n false) p q := by
  have h : ∀ k, (Array.replicate n false).getD k false = false := by
    intro k
    by_cases hk : k < n <;> simp [Array.getD, hk]
  refine ⟨hn, fun j hj => ?_, fun j hj => ?_, fun i j _ hi => ?_, fun j hj => ?_⟩
  · rw [h] at hj; cases hj
  · rw [h] at hj; cases hj
  · rw [h] at hi; cases hi
  · rw [h] at hj; cases hj

theorem Duo.ord_set (h : ∀ j : Fin 2, listed.getD (9 + j.val) false = true → listed.getD (7 + j.val) false = true) {i : Nat} (hi : listed.getD i true = false) (hne : ∀ k : Fin 2, 9 + k.val ≠ i) :
    ∀ j : Fin 2, (listed.setIfInBounds i true).getD (9 + j.val) false = true → (listed.setIfInBounds i true).getD (7 + j.val) false = true := by
  intro j hj
  rw [getD_set hi, if_neg (hne j)] at hj
  rw [getD_set hi, h j hj]
  split <;> rfl

/-- A value has come up. -/
theorem Duo.qq (h : Duo W w x t listed p q) (j : Fin 7) (hi : listed.getD j.val true = false) (hn : New w w') {v : Value} (hv : v = t j) : Duo W w' x t (listed.setIfInBounds j.val true) p (updN q j v) := by
  refine ⟨h.new.trans' hn, fun k hk => ?_, fun k hk => ?_, fun a b hab ha hb => ?_, Duo.ord_set h.ord hi (by intro k; omega)⟩
  · by_cases hkj : k = j
    · subst hkj; simp only [updN, if_true]; exact hv
    · rw [getD_set hi, if_neg (by intro e; apply hkj; apply Fin.ext; omega)] at hk
      simp only [updN, if_neg hkj]
      exact h.val k hk
  · rw [getD_set hi, if_neg (by omega)] at hk
    rw [getD_set hi, if_neg (by omega)]
    obtain ⟨b, h1, h2, h3, h4⟩ := h.ptr k hk
    refine ⟨b, h1, h2, fun hs => ?_, fun hs => ?_⟩
    · have := h3 hs
      rw [hn.block _ (lt_of_block this) (by simp)]; exact this
    · have := h4 hs
      rw [hn.block _ (lt_of_block this) (by simp)]; exact this
  · rw [getD_set hi, if_neg (by omega)] at ha hb; exact h.dis a b hab ha hb

/-- A variable has been made. -/
theorem Duo.a (h : Duo W w x t listed p q) (j : Fin 2) (hi : listed.getD (7 + j.val) true = false) :
    Duo W (w.alloc (.cells zp 36)) x t (listed.setIfInBounds (7 + j.val) true) (updN p j (.pointer (some ⟨w.heap.size, 0, none⟩))) q := by
  have hn : New w (w.alloc (.cells zp 36)) := New.alloc w _
  have hst : listed.getD (9 + j.val) false = false := by
    rcases Bool.eq_false_or_eq_true (listed.getD (9 + j.val) false) with hs | hs
    · have h1 := h.ord j hs
      have h2 : listed.getD (7 + j.val) true = true := by
        by_cases hs : 7 + j.val < listed.size
        · simpa [Array.getD, hs] using h1
        · simp [Array.getD, hs]
      rw [h2] at hi; cases hi
    · exact hs
  have old : ∀ k : Fin 2, k ≠ j → (listed.setIfInBounds (7 + j.val) true).getD (7 + k.val) false = true → listed.getD (7 + k.val) false = true := by
    intro k hkj hk
    rwa [getD_set hi, if_neg (by intro e; apply hkj; apply Fin.ext; omega)] at hk
  have lt : ∀ k : Fin 2, listed.getD (7 + k.val) false = true → ∃ b, p k = .pointer (some ⟨b, 0, none⟩) ∧ b < w.heap.size := by
    intro k hk
    obtain ⟨b, h1, _, h3, h4⟩ := h.ptr k hk
    refine ⟨b, h1, ?_⟩
    rcases Bool.eq_false_or_eq_true (listed.getD (9 + k.val) false) with hs | hs
    · exact lt_of_block (h4 hs)
    · exact lt_of_block (h3 hs)
  refine ⟨h.new.trans' hn, fun k hk => ?_, fun k hk => ?_, fun a b hab ha hb => ?_, Duo.ord_set h.ord hi (by intro k; omega)⟩
  · rw [getD_set hi, if_neg (by omega)] at hk; exact h.val k hk
  · by_cases hkj : k = j
    · subst hkj
      rw [getD_set hi, if_neg (by omega), hst]
      refine ⟨w.heap.size, by simp [updN], h.new.size, fun _ => _root_.Go.heap_alloc_new w _, fun hs => by cases hs⟩
    · obtain ⟨b, h1, h2, h3, h4⟩ := h.ptr k (old k hkj hk)
      rw [getD_set hi, if_neg (by omega)]
      refine ⟨b, by simp only [updN, if_neg hkj]; exact h1, h2, fun hs => ?_, fun hs => ?_⟩
      · have := h3 hs
        rw [hn.block _ (lt_of_block this) (by simp)]; exact this
      · have := h4 hs
        rw [hn.block _ (lt_of_block this) (by simp)]; exact this
  · by_cases haj : a = j
    · by_cases hbj : b = j
      · exact absurd (haj.trans hbj.symm) hab
      · obtain ⟨c, e, hc⟩ := lt b (old b hbj hb)
        subst haj
        simp only [updN, if_true, if_neg hbj]
        rw [e]
        intro k
        simp at k <;> omega
    · obtain ⟨c, e, hc⟩ := lt a (old a haj ha)
      by_cases hbj : b = j
      · subst hbj
        simp only [updN, if_true, if_neg haj]
        rw [e]
        intro k
        simp at k <;> omega
      · simp only [updN, if_neg haj, if_neg hbj]
        exact h.dis a b hab (old a haj ha) (old b hbj hb)

/-- A variable has been written. -/
theorem Duo.s (h : Duo W w x t listed p q) (j : Fin 2) (hi : listed.getD (9 + j.val) true = false) {b : Nat} (hp : p j = .pointer (some ⟨b, 0, none⟩)) (hz : w.heap[b]? = some (.cells zp 36 (0, 0))) (hW : W.heap.size ≤ b) (ha : listed.getD (7 + j.val) false = true) :
    Duo W ((w.setCell ⟨b, 0, none⟩ (.int .i64 (x j).1)).setCell ⟨b, 1, none⟩ (.int .i64 (x j).2)) x t (listed.setIfInBounds (9 + j.val) true) p q := by
  have hset : ((w.setCell ⟨b, 0, none⟩ (.int .i64 (x j).1)).setCell ⟨b, 1, none⟩ (.int .i64 (x j).2)).heap[b]? = some (.cells (pp (x j)) 36 (0, 0)) := pair_set1 (pair_set0 hz)
  have hoth : ∀ c, c ≠ b → ((w.setCell ⟨b, 0, none⟩ (.int .i64 (x j).1)).setCell ⟨b, 1, none⟩ (.int .i64 (x j).2)).heap[c]? = w.heap[c]? := fun c hc => by
    rw [heap_setCell_other _ ⟨b, 1, none⟩ c _ hc, heap_setCell_other _ ⟨b, 0, none⟩ c _ hc]
  refine ⟨(h.new.set hW _).set hW _, fun k hk => ?_, fun k hk => ?_, fun a c hac hha hhc => ?_, fun k hk => ?_⟩
  · rw [getD_set hi, if_neg (by omega)] at hk; exact h.val k hk
  · rw [getD_set hi, if_neg (by omega)] at hk
    by_cases hkj : k = j
    · subst hkj
      refine ⟨b, hp, hW, fun hs => ?_, fun _ => hset⟩
      rw [getD_set hi, if_pos rfl] at hs; cases hs
    · obtain ⟨c, h1, h2, h3, h4⟩ := h.ptr k hk
      have hcb : c ≠ b := by
        intro e
        have := h.dis k j hkj hk ha
        rw [h1, hp, e] at this
        exact this rfl
      rw [getD_set hi, if_neg (by intro e; apply hkj; apply Fin.ext; omega)]
      exact ⟨c, h1, h2, fun hs => (hoth c hcb).trans (h3 hs), fun hs => (hoth c hcb).trans (h4 hs)⟩
  · rw [getD_set hi, if_neg (by omega)] at hha hhc; exact h.dis a c hac hha hhc
  · rw [getD_set hi, if_neg (by omega)]
    by_cases hkj : k = j
    · subst hkj; exact ha
    · rw [getD_set hi, if_neg (by intro e; apply hkj; apply Fin.ext; omega)] at hk
      exact h.ord k hk
end

end Go.Proofs.YtgeoffpcmkofkaaGreat
/- The walk of 'flip' of package mesh. -/
namespace Go.Proofs.YtgeoffpcmkofkaaGreat
open Go.RowKit Go.Maps Fl
set_option maxRecDepth 100000
attribute [local go_sem ↓] Go.wp_at_zero Go.wp_at_succ

/-- A directed side's cells. -/
def encE (e : Ed) : List Value := [.int .i64 e.1.1, .int .i64 e.1.2, .int .i64 e.2.1, .int .i64 e.2.2]

set_option maxHeartbeats 1600000 in
theorem flip_any (b n : Nat) (m : Ms) (u v l r : Pt) (w : World) (h : MapE w b n m) (hn : n + 6 < maxLen) (hl : m (u, v) = some l) (hr : m (v, u) = some r) (hv : Vals m) :
    Calls Tryz.prog 48 #[.map (some b), .agg #[.int .i64 u.1, .int .i64 u.2, .int .i64 v.1, .int .i64 v.2]] w fun e w' =>
      ∃ g, e = .returned (.slice (some ⟨g, 0, none⟩) 4 4) ∧ Hid (MapE w' b (n + 6) (flipM m u v l r) ∧ w.grownBy w' (some b) ∧ w.heap.size ≤ g ∧ w'.heap[g]? = some (.cells ([(u, r), (r, v), (v, l), (l, u)].flatMap encE).toArray 65 (0, 0))) := by
  have H : Hid (MapE w b n m) := h
  have HM0 : Hid (MapE w b n m) := h
  have hr0 := hr
  have he : Hid (CdE (u, v)) := h.sup hl
  have hvl : Hid (CdP l ∧ CdP r) := ⟨hv _ _ hl, hv _ _ hr⟩
  have hb := h.lt
  clear h hv
  go_enter Tryz.func48, Tryz.ntmps48
  go_wp2_with fail
  go_cut [5, 6] from 9 to 12 (fun s5 s6 wx => ∃ b1 b2 : Nat, s5 = .pointer (some ⟨b1, 0, none⟩) ∧ s6 = .pointer (some ⟨b2, 0, none⟩) ∧ Hid (New w wx ∧ BoxE wx w.heap.size (u, v) ∧ BoxP wx b1 u ∧ BoxP wx b2 v ∧ w.heap.size ≤ b1 ∧ w.heap.size ≤ b2))
  case first =>
    go_region_held3 (fun w' => w'.cell? ⟨w.heap.size, 0, none⟩ = some (.int .i64 u.1) ∧ w'.cell? ⟨w.heap.size, 1, none⟩ = some (.int .i64 u.2) ∧ w'.cell? ⟨w.heap.size, 2, none⟩ = some (.int .i64 v.1) ∧ w'.cell? ⟨w.heap.size, 3, none⟩ = some (.int .i64 v.2))
      (go_keep) (first | fail)
    · go_wp2_with fail
      go_meet
      exact ⟨_, _, rfl, rfl, (((New.refl w).alloc' _).alloc' _).alloc' _ |>.drewN 1, ⟨by go_simp, by go_simp, by go_simp, by go_simp⟩, ⟨by go_simp, by go_simp⟩, ⟨by go_simp, by go_simp⟩, by omega, by omega⟩
    · go_wp2_with fail
      go_meet
      exact ⟨_, _, rfl, rfl, (((New.refl w).alloc' _).alloc' _).alloc' _ |>.drewN 1, ⟨by go_simp, by go_simp, by go_simp, by go_simp⟩, ⟨by go_simp, by go_simp⟩, ⟨by go_simp, by go_simp⟩, by omega, by omega⟩
  case rest =>
    obtain ⟨b1, b2, rfl, rfl, HC⟩ := hcut
    go_wp2_with fail
    go_cut [7, 8] from 13 to 19 (fun s7 s8 wx => ∃ b3 b4 : Nat, s7 = .pointer (some ⟨b3, 0, none⟩) ∧ s8 = .pointer (some ⟨b4, 0, none⟩) ∧ Hid (New w wx ∧ BoxE wx w.heap.size (u, v) ∧ BoxP wx b1 u ∧ BoxP wx b2 v ∧ BoxP wx b3 l ∧ BoxP wx b4 r ∧ w.heap.size ≤ b3 ∧ w.heap.size ≤ b4))
    case first =>
      refine wp_region_inv (by kernel_rfl) (fun listed a' w' => ∃ (p : Fin 2 → Value) (q : Fin 7 → Value), a' = { tmps := #[.map (some b), .agg #[.int .i64 u.1, .int .i64 u.2, .int .i64 v.1, .int .i64 v.2], undef, .pointer (some ⟨w.heap.size, 0, none⟩), .slice none 0 0, .pointer (some ⟨b1, 0, none⟩), .pointer (some ⟨b2, 0, none⟩), p 0, p 1, u9, u10, u11, u12, q 0, q 1, q 2, q 3, q 4, q 5, q 6, undef, undef, undef, undef, undef, undef, undef, undef, undef, undef, undef, undef, undef, undef, undef, undef, undef, undef, undef, undef, undef, undef, undef, undef, undef, undef, undef, undef], defers := [] } ∧ Hid (Duo wc w' (fun j => if j = 0 then l else r) (fun j => if j = 0 then .map (some b) else if j = 1 then .agg #[.int .i64 u.1, .int .i64 u.2, .int .i64 v.1, .int .i64 v.2] else if j = 2 then .agg #[.int .i64 l.1, .int .i64 l.2] else if j = 3 then .map (some b) else if j = 4 then .agg #[.int .i64 u.1, .int .i64 u.2, .int .i64 v.1, .int .i64 v.2] else if j = 5 then .agg #[.int .i64 v.1, .int .i64 v.2, .int .i64 u.1, .int .i64 u.2] else .agg #[.int .i64 r.1, .int .i64 r.2]) listed p q)) ?hac ?hg ?start ?step ?fin
      case hac => exact edges_ok (by kernel_rfl)
      case hg => exact guards_ok (by kernel_rfl)
      case start => exact ⟨fun _ => undef, fun _ => undef, rfl, Duo.start ((New.refl wc).drewN 1) _⟩
      case step =>
        rintro listed a' wr i o ⟨p, q, rfl, H⟩ ho hr
        have hm := hr.mine
        have hah := hr.ahead
        have hM := HM0.out.new (HC.out.1.trans' H.out.new)
        have l1 : (Instr.lookup 51 (.map (some b)) (.agg #[.int .i64 u.1, .int .i64 u.2, .int .i64 v.1, .int .i64 v.2]) false).run Tryz.prog wr = .ok (.agg #[.int .i64 l.1, .int .i64 l.2]) wr := by
          have := hM.look (e := (u, v)) he.out
          rw [show atM m (u, v) = l by simp [atM, hl]] at this
          exact this
        have l2 : (Instr.lookup 51 (.map (some b)) (.agg #[.int .i64 v.1, .int .i64 v.2, .int .i64 u.1, .int .i64 u.2]) false).run Tryz.prog wr = .ok (.agg #[.int .i64 r.1, .int .i64 r.2]) wr := by
          have := hM.look (e := (v, u)) ⟨he.out.2, he.out.1⟩
          rw [show atM m (v, u) = r by simp [atM, hr0]] at this
          exact this
        obtain ⟨x0, x1, x2, x3⟩ := HC.out.2.1.new H.out.new
        clear hr hM
        match i, ho with
        | 0, ho =>
          obtain rfl := Option.some.inj (show some _ = some o from ho)
          refine wpK fun K' hK => ?_
          clear hah ho
          have HM : Hid (listed.getD 0 true = false) := hm
          clear hm
          go_simp
          exact hK.out _ _ ⟨p, updN q 0 (.map (some b)), rfl, H.out.qq 0 HM.out (New.refl _) rfl⟩
        | 1, ho =>
          obtain rfl := Option.some.inj (show some _ = some o from ho)
          refine wpK fun K' hK => ?_
          clear hah ho
          have HM : Hid (listed.getD 1 true = false) := hm
          clear hm
          go_simp
          exact hK.out _ _ ⟨p, updN q 1 (.agg #[.int .i64 u.1, .int .i64 u.2, .int .i64 v.1, .int .i64 v.2]), rfl, H.out.qq 1 HM.out (New.refl _) rfl⟩
        | 2, ho =>
          obtain rfl := Option.some.inj (show some _ = some o from ho)
          have d0 : q 0 = .map (some b) := H.out.val 0 (hah ⟨0, .data⟩ (by simp) rfl)
          have d1 : q 1 = .agg #[.int .i64 u.1, .int .i64 u.2, .int .i64 v.1, .int .i64 v.2] := H.out.val 1 (hah ⟨1, .data⟩ (by simp) rfl)
          have HM : Hid (listed.getD 2 true = false) := hm
          clear hah ho hm
          refine wpK fun K' hK => ?_
          unfold Oper.wp
          simp [execOp, Act.eval, d0, d1, l1, Result.andThen, go_sem]
          refine cast (congrArg (fun a => K' a _) ?_) (hK.out _ _ ⟨p, updN q 2 (.agg #[.int .i64 l.1, .int .i64 l.2]), rfl, H.out.qq 2 HM.out (New.refl _) rfl⟩)
          simp [updN, d0, d1]
        | 3, ho =>
          obtain rfl := Option.some.inj (show some _ = some o from ho)
          refine wpK fun K' hK => ?_
          clear hah ho
          have HM : Hid (listed.getD 3 true = false) := hm
          clear hm
          go_simp
          exact hK.out _ _ ⟨p, updN q 3 (.map (some b)), rfl, H.out.qq 3 HM.out (New.refl _) rfl⟩
        | 4, ho =>
          obtain rfl := Option.some.inj (show some _ = some o from ho)
          refine wpK fun K' hK => ?_
          clear hah ho
          have HM : Hid (listed.getD 4 true = false) := hm
          clear hm
          go_simp
          exact hK.out _ _ ⟨p, updN q 4 (.agg #[.int .i64 u.1, .int .i64 u.2, .int .i64 v.1, .int .i64 v.2]), rfl, H.out.qq 4 HM.out (New.refl _) rfl⟩
        | 5, ho =>
          obtain rfl := Option.some.inj (show some _ = some o from ho)
          have d4 : q 4 = .agg #[.int .i64 u.1, .int .i64 u.2, .int .i64 v.1, .int .i64 v.2] := H.out.val 4 (hah ⟨4, .data⟩ (by simp) rfl)
          refine wpK fun K' hK => ?_
          have HM : Hid (listed.getD 5 true = false) := hm
          clear hah ho hm
          go_simp
          refine (reverse_any u.1 u.2 v.1 v.2 _).mono ?_
          rintro e w2 ⟨rfl, HC⟩
          dsimp only
          refine cast (congrArg (fun a => K' a _) ?_) (hK.out _ _ ⟨p, updN q 5 (.agg #[.int .i64 v.1, .int .i64 v.2, .int .i64 u.1, .int .i64 u.2]), rfl, H.out.qq 5 HM.out HC.out rfl⟩)
          simp [updN, d4]
        | 6, ho =>
          obtain rfl := Option.some.inj (show some _ = some o from ho)
          have d3 : q 3 = .map (some b) := H.out.val 3 (hah ⟨3, .data⟩ (by simp) rfl)
          have d5 : q 5 = .agg #[.int .i64 v.1, .int .i64 v.2, .int .i64 u.1, .int .i64 u.2] := H.out.val 5 (hah ⟨5, .data⟩ (by simp) rfl)
          have HM : Hid (listed.getD 6 true = false) := hm
          clear hah ho hm
          refine wpK fun K' hK => ?_
          unfold Oper.wp
          simp [execOp, Act.eval, d3, d5, l2, Result.andThen, go_sem]
          refine cast (congrArg (fun a => K' a _) ?_) (hK.out _ _ ⟨p, updN q 6 (.agg #[.int .i64 r.1, .int .i64 r.2]), rfl, H.out.qq 6 HM.out (New.refl _) rfl⟩)
          simp [updN, d3, d5]
        | 7, ho =>
          obtain rfl := Option.some.inj (show some _ = some o from ho)
          refine wpK fun K' hK => ?_
          clear hah ho
          have HM : Hid (listed.getD 7 true = false) := hm
          clear hm
          go_simp
          exact hK.out _ _ ⟨updN p 0 _, q, rfl, H.out.a 0 HM.out⟩
        | 8, ho =>
          obtain rfl := Option.some.inj (show some _ = some o from ho)
          refine wpK fun K' hK => ?_
          clear hah ho
          have HM : Hid (listed.getD 8 true = false) := hm
          clear hm
          go_simp
          exact hK.out _ _ ⟨updN p 1 _, q, rfl, H.out.a 1 HM.out⟩
        | 9, ho =>
          obtain rfl := Option.some.inj (show some _ = some o from ho)
          have da := hah ⟨7, .data⟩ (by simp) rfl
          have dq : q 2 = .agg #[.int .i64 l.1, .int .i64 l.2] := H.out.val 2 (hah ⟨2, .data⟩ (by simp) rfl)
          obtain ⟨c, hp, hW, hz, _⟩ := H.out.ptr 0 da
          have hzz := hz (getD_false hm)
          have HD : Hid (Duo wc ((wr.setCell ⟨c, 0, none⟩ (.int .i64 l.1)).setCell ⟨c, 1, none⟩ (.int .i64 l.2)) (fun j => if j = 0 then l else r) (fun j => if j = 0 then .map (some b) else if j = 1 then .agg #[.int .i64 u.1, .int .i64 u.2, .int .i64 v.1, .int .i64 v.2] else if j = 2 then .agg #[.int .i64 l.1, .int .i64 l.2] else if j = 3 then .map (some b) else if j = 4 then .agg #[.int .i64 u.1, .int .i64 u.2, .int .i64 v.1, .int .i64 v.2] else if j = 5 then .agg #[.int .i64 v.1, .int .i64 v.2, .int .i64 u.1, .int .i64 u.2] else .agg #[.int .i64 r.1, .int .i64 r.2]) (listed.setIfInBounds 9 true) p q) := H.out.s 0 hm hp hzz hW da
          have c0 := pair_cell0 hzz
          have c1 := pair_cell1 hzz
          have f0 := fun o => pair_free (o := o) hzz
          refine wpK fun K' hK => ?_
          clear hah ho hm da hz hzz hW
          go_simp
          refine cast (congrArg (fun a => K' a _) ?_) (hK.out _ _ ⟨p, q, rfl, HD⟩)
          simp [hp, dq]
        | 10, ho =>
          obtain rfl := Option.some.inj (show some _ = some o from ho)
          have da := hah ⟨8, .data⟩ (by simp) rfl
          have dq : q 6 = .agg #[.int .i64 r.1, .int .i64 r.2] := H.out.val 6 (hah ⟨6, .data⟩ (by simp) rfl)
          obtain ⟨c, hp, hW, hz, _⟩ := H.out.ptr 1 da
          have hzz := hz (getD_false hm)
          have HD : Hid (Duo wc ((wr.setCell ⟨c, 0, none⟩ (.int .i64 r.1)).setCell ⟨c, 1, none⟩ (.int .i64 r.2)) (fun j => if j = 0 then l else r) (fun j => if j = 0 then .map (some b) else if j = 1 then .agg #[.int .i64 u.1, .int .i64 u.2, .int .i64 v.1, .int .i64 v.2] else if j = 2 then .agg #[.int .i64 l.1, .int .i64 l.2] else if j = 3 then .map (some b) else if j = 4 then .agg #[.int .i64 u.1, .int .i64 u.2, .int .i64 v.1, .int .i64 v.2] else if j = 5 then .agg #[.int .i64 v.1, .int .i64 v.2, .int .i64 u.1, .int .i64 u.2] else .agg #[.int .i64 r.1, .int .i64 r.2]) (listed.setIfInBounds 10 true) p q) := H.out.s 1 hm hp hzz hW da
          have c0 := pair_cell0 hzz
          have c1 := pair_cell1 hzz
          have f0 := fun o => pair_free (o := o) hzz
          refine wpK fun K' hK => ?_
          clear hah ho hm da hz hzz hW
          go_simp
          refine cast (congrArg (fun a => K' a _) ?_) (hK.out _ _ ⟨p, q, rfl, HD⟩)
          simp [hp, dq]
        | n + 11, ho => simp at ho
      case fin =>
        rintro listed a' wr ⟨p, q, rfl, H⟩ hall
        obtain ⟨b3, e3, g3, _, k3⟩ := H.out.ptr 0 (hall 7 (by decide))
        obtain ⟨b4, e4, g4, _, k4⟩ := H.out.ptr 1 (hall 8 (by decide))
        have k3 := k3 (hall 9 (by decide))
        have k4 := k4 (hall 10 (by decide))
        rw [e3, e4]
        have hs := HC.out.1.size
        have HF : Hid (New w wr ∧ BoxE wr w.heap.size (u, v) ∧ BoxP wr b1 u ∧ BoxP wr b2 v ∧ BoxP wr b3 l ∧ BoxP wr b4 r ∧ w.heap.size ≤ b3 ∧ w.heap.size ≤ b4) := ⟨HC.out.1.trans' H.out.new, HC.out.2.1.new H.out.new, HC.out.2.2.1.new H.out.new, HC.out.2.2.2.1.new H.out.new, ⟨pair_cell0 k3, pair_cell1 k3⟩, ⟨pair_cell0 k4, pair_cell1 k4⟩, by omega, by omega⟩
        clear hall e3 e4 g3 g4 k3 k4 hs
        dsimp only
        go_wp2_with fail
        go_meet
        exact ⟨_, _, rfl, rfl, HF⟩
    case rest =>
      obtain ⟨b3, b4, rfl, rfl, HD⟩ := hcut
      obtain ⟨x0, x1, x2, x3⟩ := HD.out.2.1
      have hne : Hid (w.heap.size ≠ b ∧ b1 ≠ b ∧ b2 ≠ b ∧ b3 ≠ b ∧ b4 ≠ b) := by
        have h1 := HC.out.2.2.2.2
        have h2 := HD.out.2.2.2.2.2.2
        exact ⟨by omega, by omega, by omega, by omega, by omega⟩
      go_wp2_with (first
        | (at_delete; refine wpList_dropE _ rfl _ _ rfl b n m rfl (H.out.new HD.out.1) (u, v) rfl he.out ?_
           intro w3 h3 t3
           have H3 : Hid (MapE w3 b n (delM m (u, v)) ∧ w.grownBy w3 (some b) ∧ BoxE w3 w.heap.size (u, v) ∧ BoxP w3 b1 u ∧ BoxP w3 b2 v ∧ BoxP w3 b3 l ∧ BoxP w3 b4 r) := ⟨h3, (HD.out.1.but (some b)).trans t3.grown, HD.out.2.1.turned t3 hne.out.1, HD.out.2.2.1.turned t3 hne.out.2.1, HD.out.2.2.2.1.turned t3 hne.out.2.2.1, HD.out.2.2.2.2.1.turned t3 hne.out.2.2.2.1, HD.out.2.2.2.2.2.1.turned t3 hne.out.2.2.2.2⟩
           clear h3 t3 H x0 x1 x2 x3
           obtain ⟨x0, x1, x2, x3⟩ := H3.out.2.2.1)
        | (go_at_call 63; refine (reverse_any u.1 u.2 v.1 v.2 _).mono ?_
           rintro e w4 ⟨rfl, H4⟩)
        | (at_delete; refine wpList_dropE _ rfl _ _ rfl b n _ rfl (H3.out.1.new H4.out) (v, u) rfl ⟨he.out.2, he.out.1⟩ ?_
           intro w5 h5 t5
           have H5 : Hid (MapE w5 b n (delM (delM m (u, v)) (v, u)) ∧ w.grownBy w5 (some b) ∧ BoxP w5 b1 u ∧ BoxP w5 b2 v ∧ BoxP w5 b3 l ∧ BoxP w5 b4 r) := ⟨h5, (H3.out.2.1.trans (H4.out.but (some b))).trans t5.grown, (H3.out.2.2.2.1.new H4.out).turned t5 hne.out.2.1, (H3.out.2.2.2.2.1.new H4.out).turned t5 hne.out.2.2.1, (H3.out.2.2.2.2.2.1.new H4.out).turned t5 hne.out.2.2.2.1, (H3.out.2.2.2.2.2.2.new H4.out).turned t5 hne.out.2.2.2.2⟩
           clear h5 t5 H3 H4 x0 x1 x2 x3
           obtain ⟨y0, y1⟩ := H5.out.2.2.1
           obtain ⟨y2, y3⟩ := H5.out.2.2.2.1
           obtain ⟨y4, y5⟩ := H5.out.2.2.2.2.1
           obtain ⟨y6, y7⟩ := H5.out.2.2.2.2.2)
        | (go_at_call 39; refine (add_any b n _ u r l _ H5.out.1 (by omega) he.out.1 hvl.out.2 hvl.out.1).mono ?_
           rintro e w6 ⟨rfl, A6⟩
           have H6 : Hid (MapE w6 b (n + 3) (addM (delM (delM m (u, v)) (v, u)) u r l) ∧ w.grownBy w6 (some b) ∧ BoxP w6 b1 u ∧ BoxP w6 b2 v ∧ BoxP w6 b3 l ∧ BoxP w6 b4 r) := ⟨A6.out.1, H5.out.2.1.trans A6.out.2, H5.out.2.2.1.grown A6.out.2 (by simpa using hne.out.2.1), H5.out.2.2.2.1.grown A6.out.2 (by simpa using hne.out.2.2.1), H5.out.2.2.2.2.1.grown A6.out.2 (by simpa using hne.out.2.2.2.1), H5.out.2.2.2.2.2.grown A6.out.2 (by simpa using hne.out.2.2.2.2)⟩
           clear A6 H5 y0 y1 y2 y3 y4 y5 y6 y7
           obtain ⟨y0, y1⟩ := H6.out.2.2.1
           obtain ⟨y2, y3⟩ := H6.out.2.2.2.1
           obtain ⟨y4, y5⟩ := H6.out.2.2.2.2.1
           obtain ⟨y6, y7⟩ := H6.out.2.2.2.2.2)
        | (go_at_call 39; refine (add_any b (n + 3) _ v l r _ H6.out.1 (by omega) he.out.2 hvl.out.1 hvl.out.2).mono ?_
           rintro e w7 ⟨rfl, A7⟩
           have H7 : Hid (MapE w7 b (n + 6) (flipM m u v l r) ∧ w.grownBy w7 (some b) ∧ BoxP w7 b1 u ∧ BoxP w7 b2 v ∧ BoxP w7 b3 l ∧ BoxP w7 b4 r) := ⟨A7.out.1, H6.out.2.1.trans A7.out.2, H6.out.2.2.1.grown A7.out.2 (by simpa using hne.out.2.1), H6.out.2.2.2.1.grown A7.out.2 (by simpa using hne.out.2.2.1), H6.out.2.2.2.2.1.grown A7.out.2 (by simpa using hne.out.2.2.2.1), H6.out.2.2.2.2.2.grown A7.out.2 (by simpa using hne.out.2.2.2.2)⟩
           clear A7 H6 y0 y1 y2 y3 y4 y5 y6 y7
           obtain ⟨y0, y1⟩ := H7.out.2.2.1
           obtain ⟨y2, y3⟩ := H7.out.2.2.2.1
           obtain ⟨y4, y5⟩ := H7.out.2.2.2.2.1
           obtain ⟨y6, y7⟩ := H7.out.2.2.2.2.2)
        | go_in)
      go_ret
      exact ⟨w7.heap.size, rfl, H7.out.1.new (New.alloc _ _), H7.out.2.1.trans ((New.alloc _ _).but (some b)), H7.out.2.1.size, _root_.Go.heap_alloc_new w7 _⟩

end Go.Proofs.YtgeoffpcmkofkaaGreat
/- What the library's sort makes of points, of directed sides and of triangles. -/
namespace Go.Proofs.YtgeoffpcmkofkaaGreat
open Go.RowKit Fl Go.Sort Go.Shelf Go.Lib
set_option maxRecDepth 100000

def encP (p : Pt) : List Value := [.int .i64 p.1, .int .i64 p.2]
def encT (t : Tri3) : List Value := [.int .i64 t.1, .int .i64 t.2.1, .int .i64 t.2.2]

theorem orI_neg (s t : Int) : orI s t < 0 ↔ s < 0 ∨ s = 0 ∧ t < 0 := by
  unfold orI; split <;> omega
theorem orI_zero (s t : Int) : orI s t = 0 ↔ s = 0 ∧ t = 0 := by
  unfold orI; split <;> omega
theorem cmpP_neg (a b : Pt) : cmpP a b < 0 ↔ a.1 < b.1 ∨ a.1 = b.1 ∧ a.2 < b.2 := by
  unfold cmpP
  rw [orI_neg, sgn_neg', sgn_zero, sgn_neg']
  omega
theorem cmpP_zero (a b : Pt) : cmpP a b = 0 ↔ a = b := by
  unfold cmpP
  rw [orI_zero, sgn_zero, sgn_zero]
  constructor
  · rintro ⟨h1, h2⟩; exact pt_ext (by omega) (by omega)
  · rintro rfl; omega
theorem cmpE_neg (e f : Ed) : cmpE e f < 0 ↔ cmpP e.1 f.1 < 0 ∨ e.1 = f.1 ∧ cmpP e.2 f.2 < 0 := by
  unfold cmpE
  rw [orI_neg, cmpP_zero]
theorem cmpT_neg (s t : Tri3) : cmpT s t < 0 ↔ s.1 < t.1 ∨ s.1 = t.1 ∧ (s.2.1 < t.2.1 ∨ s.2.1 = t.2.1 ∧ s.2.2 < t.2.2) := by
  unfold cmpT
  rw [orI_neg, orI_neg, sgn_neg', sgn_zero, sgn_neg', sgn_zero, sgn_neg']
  omega
theorem ltOf_iff {α : Type} (cf : α → α → Int) (x y : α) : ltOf cf x y = true ↔ cf x y < 0 := by simp [ltOf]
theorem ltOf_not {α : Type} (cf : α → α → Int) (x y : α) : ltOf cf x y = false ↔ ¬cf x y < 0 := by simp [ltOf]

theorem swoP : SWO (ltOf cmpP) where
  irrefl x := by rw [ltOf_not, cmpP_neg]; omega
  trans x y z h1 h2 := by rw [ltOf_iff, cmpP_neg] at *; omega
  ntrans x y z h1 h2 := by rw [ltOf_not, cmpP_neg] at *; omega
theorem pt_eq_iff (p q : Pt) : p = q ↔ p.1 = q.1 ∧ p.2 = q.2 := ⟨fun h => by rw [h]; exact ⟨rfl, rfl⟩, fun h => pt_ext h.1 h.2⟩
theorem swoE : SWO (ltOf cmpE) where
  irrefl x := by rw [ltOf_not, cmpE_neg, cmpP_neg, cmpP_neg]; omega
  trans x y z h1 h2 := by rw [ltOf_iff, cmpE_neg, cmpP_neg, cmpP_neg, pt_eq_iff] at *; omega
  ntrans x y z h1 h2 := by rw [ltOf_not, cmpE_neg, cmpP_neg, cmpP_neg, pt_eq_iff] at *; omega
theorem swoT : SWO (ltOf cmpT) where
  irrefl x := by rw [ltOf_not, cmpT_neg]; omega
  trans x y z h1 h2 := by rw [ltOf_iff, cmpT_neg] at *; omega
  ntrans x y z h1 h2 := by rw [ltOf_not, cmpT_neg] at *; omega

theorem laysP (blk off size : Nat) (w : World) : CmpLays Tryz.prog 42 #[] encP 2 cmpP blk off size w :=
  fun _ _ _ _ x y => (compare_gr x.1 x.2 y.1 y.2 _).mono fun _ _ h => ⟨h.1, h.2.out⟩
theorem laysE (blk off size : Nat) (w : World) : CmpLays Tryz.prog 46 #[] encE 4 cmpE blk off size w :=
  fun _ _ _ _ x y => (compareEdges_gr x y _).mono fun _ _ h => ⟨h.1, h.2.out⟩
theorem laysT (blk off size : Nat) (w : World) : CmpLays Tryz.prog 50 #[] encT 3 cmpT blk off size w :=
  fun _ _ _ _ x y => (compareTriangles_gr x y _).mono fun _ _ h => ⟨h.1, h.2.out⟩

theorem lenP (x : Pt) : (encP x).length = 2 := rfl
theorem lenE (x : Ed) : (encE x).length = 4 := rfl
theorem lenT (x : Tri3) : (encT x).length = 3 := rfl

theorem sortP_any (base g cap : Nat) (l : List Pt) (w : World) (h : w.ownsRow base 36 2 (.slice (some ⟨g, 0, none⟩) l.length cap) l.length (l.flatMap encP)) (hg : g < w.heap.size) (hl : l.length < 4611686018427387904) :
    Calls Tryz.prog 41 #[.slice (some ⟨g, 0, none⟩) l.length cap, .func (.func 42) #[] #[]] w fun e w' => e = .returned (.tuple #[]) ∧
      Hid (∃ l' : List Pt, l'.Perm l ∧ l'.Pairwise (fun x y => ltOf cmpP y x = false) ∧ w'.ownsRow base 36 2 (.slice (some ⟨g, 0, none⟩) l.length cap) l.length (l'.flatMap encP) ∧ w.grownBy w' (some g)) := by
  have eg : ∀ args w, (callFunc 42 args).run Tryz.prog w = .ok (.enter 42 args) w := enters_of Tryz.func42 (by kernel_rfl) rfl
  have hc := AnyQ.slices_SortFunc Tryz.sortP 2 Tryz.isAgg36 Tryz.sizeOf36 encP lenP (fun x v hv => by simp [encP] at hv; rcases hv with rfl | rfl <;> rfl) cmpP swoP 42 #[] g 0 cap l.toArray w eg (laysP _ _ _ _) (holdsK_row lenP h rfl) hg (by simpa using hl)
  change Calls Tryz.prog 41 _ _ _ at hc
  refine hc.mono fun e w' hh => ?_
  obtain ⟨he, d', m, os, hp, hs, rfl⟩ := hh
  have hp' := permIn_list hp
  have hs' := sortedIn_list (n := l.length) (by simpa using hp.1) hs
  have hr := sorted_row lenP (m := m) (os := os) (l' := d'.toList) h rfl hp'.2
  refine ⟨he, d'.toList, hp'.1, hs', ?_⟩
  simpa using hr
theorem sortE_any (base g cap : Nat) (l : List Ed) (w : World) (h : w.ownsRow base 65 4 (.slice (some ⟨g, 0, none⟩) l.length cap) l.length (l.flatMap encE)) (hg : g < w.heap.size) (hl : l.length < 4611686018427387904) :
    Calls Tryz.prog 69 #[.slice (some ⟨g, 0, none⟩) l.length cap, .func (.func 46) #[] #[]] w fun e w' => e = .returned (.tuple #[]) ∧
      Hid (∃ l' : List Ed, l'.Perm l ∧ l'.Pairwise (fun x y => ltOf cmpE y x = false) ∧ w'.ownsRow base 65 4 (.slice (some ⟨g, 0, none⟩) l.length cap) l.length (l'.flatMap encE) ∧ w.grownBy w' (some g)) := by
  have eg : ∀ args w, (callFunc 46 args).run Tryz.prog w = .ok (.enter 46 args) w := enters_of Tryz.func46 (by kernel_rfl) rfl
  have hc := AnyQ.slices_SortFunc Tryz.sortE 4 Tryz.isAgg65 Tryz.sizeOf65 encE lenE (fun x v hv => by simp [encE] at hv; rcases hv with rfl | rfl | rfl | rfl <;> rfl) cmpE swoE 46 #[] g 0 cap l.toArray w eg (laysE _ _ _ _) (holdsK_row lenE h rfl) hg (by simpa using hl)
  change Calls Tryz.prog 69 _ _ _ at hc
  refine hc.mono fun e w' hh => ?_
  obtain ⟨he, d', m, os, hp, hs, rfl⟩ := hh
  have hp' := permIn_list hp
  have hs' := sortedIn_list (n := l.length) (by simpa using hp.1) hs
  have hr := sorted_row lenE (m := m) (os := os) (l' := d'.toList) h rfl hp'.2
  refine ⟨he, d'.toList, hp'.1, hs', ?_⟩
  simpa using hr
theorem sortT_any (base g cap : Nat) (l : List Tri3) (w : World) (h : w.ownsRow base 33 3 (.slice (some ⟨g, 0, none⟩) l.length cap) l.length (l.flatMap encT)) (hg : g < w.heap.size) (hl : l.length < 4611686018427387904) :
    Calls Tryz.prog 49 #[.slice (some ⟨g, 0, none⟩) l.length cap, .func (.func 50) #[] #[]] w fun e w' => e = .returned (.tuple #[]) ∧
      Hid (∃ l' : List Tri3, l'.Perm l ∧ l'.Pairwise (fun x y => ltOf cmpT y x = false) ∧ w'.ownsRow base 33 3 (.slice (some ⟨g, 0, none⟩) l.length cap) l.length (l'.flatMap encT) ∧ w.grownBy w' (some g)) := by
  have eg : ∀ args w, (callFunc 50 args).run Tryz.prog w = .ok (.enter 50 args) w := enters_of Tryz.func50 (by kernel_rfl) rfl
  have hc := AnyQ.slices_SortFunc Tryz.sortT 3 Tryz.isAgg33 Tryz.sizeOf33 encT lenT (fun x v hv => by simp [encT] at hv; rcases hv with rfl | rfl | rfl <;> rfl) cmpT swoT 50 #[] g 0 cap l.toArray w eg (laysT _ _ _ _) (holdsK_row lenT h rfl) hg (by simpa using hl)
  change Calls Tryz.prog 49 _ _ _ at hc
  refine hc.mono fun e w' hh => ?_
  obtain ⟨he, d', m, os, hp, hs, rfl⟩ := hh
  have hp' := permIn_list hp
  have hs' := sortedIn_list (n := l.length) (by simpa using hp.1) hs
  have hr := sorted_row lenT (m := m) (os := os) (l' := d'.toList) h rfl hp'.2
  refine ⟨he, d'.toList, hp'.1, hs', ?_⟩
  simpa using hr

end Go.Proofs.YtgeoffpcmkofkaaGreat
/- The walks of 'Clone' and 'Compact' of package slices, at points. -/
namespace Go.Proofs.YtgeoffpcmkofkaaGreat
open Go.RowKit Fl
set_option maxRecDepth 100000
attribute [local go_sem ↓] Go.wp_at_zero Go.wp_at_succ

theorem flatP_eq : ∀ l : Pts, flatP l = l.flatMap encP
  | [] => rfl
  | p :: l => by simp [flatP, encP, flatP_eq l]
/-- A row of points, which the call has made. -/
def OwnP (w : World) (base : Nat) (v : Value) (l : Pts) : Prop := w.ownsRow base 36 2 v l.length (l.flatMap encP)
theorem encP_one : ∀ (l : Pts), ∀ v ∈ l.flatMap encP, v.oneCell' = true := by
  intro l; rw [← flatP_eq]; exact flatP_one l
theorem OwnP.cell {w : World} {base g cap : Nat} {l : Pts} (h : OwnP w base (.slice (some ⟨g, 0, none⟩) l.length cap) l) {i : Nat} (hi : i < l.length) :
    w.cell? ⟨g, i * 2, none⟩ = some (.int .i64 l[i].1) ∧ w.cell? ⟨g, i * 2 + 1, none⟩ = some (.int .i64 l[i].2) := by
  have := flatP_get l i hi
  rw [flatP_eq] at this
  exact ⟨(World.ownsRow.cellAt h (i * 2) (by omega)).trans this.1, (World.ownsRow.cellAt h (i * 2 + 1) (by omega)).trans this.2⟩
theorem OwnP.form {w : World} {base : Nat} {v : Value} {l : Pts} (h : OwnP w base v l) : (v = .slice none 0 0 ∧ l = []) ∨ ∃ g cap, v = .slice (some ⟨g, 0, none⟩) l.length cap ∧ base ≤ g ∧ g < w.heap.size ∧ l.length ≤ cap ∧ cap ≤ maxLen := by
  rcases h.2 with ⟨e, hn⟩ | ⟨g, cap, cur, e, hb, hg, h1, h2, _⟩
  · exact .inl ⟨e, List.eq_nil_of_length_eq_zero hn⟩
  · exact .inr ⟨g, cap, e, hb, (Array.getElem?_eq_some_iff.1 hg).1, h1, h2⟩
theorem OwnP.new {w w' : World} {base : Nat} {v : Value} {l : Pts} (h : OwnP w base v l) (hg : New w w') : OwnP w' base v l := World.ownsRow.kept h hg (by cases v.ownBlock <;> simp)
theorem OwnP.pts {w : World} {base g cap : Nat} {l : Pts} (h : OwnP w base (.slice (some ⟨g, 0, none⟩) l.length cap) l) : PtsAt w g 0 l := by
  intro i hi
  rw [Nat.zero_add]
  exact h.cell hi

theorem flat_set (l : Pts) (k : Nat) (p : Pt) (hk : k < l.length) : (l.set k p).flatMap encP = ((l.flatMap encP).set (k * 2) (.int .i64 p.1)).set (k * 2 + 1) (.int .i64 p.2) := by
  induction l generalizing k with
  | nil => simp at hk
  | cons a l ih =>
    cases k with
    | zero => simp [encP]
    | succ k =>
      have := ih k (by simpa using hk)
      have e1 : (k + 1) * 2 = k * 2 + 1 + 1 := by omega
      rw [e1]
      simp only [List.set_cons_succ, List.flatMap_cons, this]
      simp [encP]
theorem OwnP.set {w : World} {base g cap : Nat} {l : Pts} (h : OwnP w base (.slice (some ⟨g, 0, none⟩) l.length cap) l) {k : Nat} (hk : k < l.length) (p : Pt) :
    OwnP ((w.setCell ⟨g, k * 2, none⟩ (.int .i64 p.1)).setCell ⟨g, k * 2 + 1, none⟩ (.int .i64 p.2)) base (.slice (some ⟨g, 0, none⟩) l.length cap) (l.set k p) ∧ w.grownBy ((w.setCell ⟨g, k * 2, none⟩ (.int .i64 p.1)).setCell ⟨g, k * 2 + 1, none⟩ (.int .i64 p.2)) (some g) := by
  have s1 := World.ownsRow.stored h (k * 2) (.int .i64 p.1)
  have s2 := World.ownsRow.stored s1.1 (k * 2 + 1) (.int .i64 p.2)
  refine ⟨?_, s1.2.trans s2.2⟩
  unfold OwnP
  rw [flat_set l k p hk, List.length_set]
  exact s2.1

end Go.Proofs.YtgeoffpcmkofkaaGreat
/- The walks of 'Clone' and 'Compact' of package slices, at points. -/
namespace Go.Proofs.YtgeoffpcmkofkaaGreat
open Go.RowKit Fl
set_option maxRecDepth 100000
attribute [local go_sem ↓] Go.wp_at_zero Go.wp_at_succ

set_option maxHeartbeats 800000 in
theorem clone_nil (w : World) : Calls Tryz.prog 40 #[.slice none 0 0] w fun e w' => e = .returned (.slice none 0 0) ∧ Hid (New w w') := by
  have h := eq_nil_none w
  go_enter Tryz.func40, Tryz.ntmps40
  go_wp2_with fail
  go_ret
  exact ⟨rfl, New.refl _⟩

set_option maxHeartbeats 800000 in
theorem clone_some (g cap : Nat) (l : Pts) (w : World) (hp : PtsAt w g 0 l) (hl : l.length ≤ 1000000) :
    Calls Tryz.prog 40 #[.slice (some ⟨g, 0, none⟩) l.length cap] w fun e w' => ∃ v, e = .returned v ∧ v ≠ .slice none 0 0 ∧ Hid (New w w' ∧ OwnP w' w.heap.size v l) := by
  have h := eq_nil_some ⟨g, 0, none⟩ l.length cap w
  have HP : Hid (PtsAt w g 0 l) := hp
  clear hp
  obtain ⟨i0, hi0, hz0, hz1, hz2⟩ := info_parts Tryz.info36
  have hown : Hid ((w.alloc (.cells #[] 36)).ownsRow w.heap.size 36 2 (.slice (some ⟨w.heap.size, 0, none⟩) 0 0) 0 []) := World.ownsRow_lit w #[] 0 (Nat.le_refl _) (by unfold maxLen; omega) (by simp)
  obtain ⟨vk, wk, k1, k2, k3, k4⟩ := run_append_own (P := Tryz.prog) (w.alloc (.cells #[] 36)) w.heap.size 22 22 36 i0 _ 2 16 Tryz.underlying22 hi0 hz0 hz1 hz2 rfl (by omega) _ 0 [] hown.out ⟨g, 0, none⟩ l.length cap (l.flatMap encP) (flat_length lenP l)
    (fun j u hu => by rw [← flatP_eq] at hu; exact (New.alloc w _).kept' (pts_cells HP.out j u hu)) (encP_one l) (by unfold maxLen; omega) (by omega) (by simp)
  rw [Nat.zero_add, List.nil_append] at k2
  have HK : Hid (wk.ownsRow w.heap.size 36 2 vk l.length (l.flatMap encP) ∧ (w.alloc (.cells #[] 36)).grownBy wk (some w.heap.size) ∧ vk ≠ .slice none 0 0) := ⟨k2, k3, fun e => by have := (k4.1 e).1; simp at this⟩
  clear k2 k3 k4 hown hi0 hz0 hz1 hz2
  go_enter Tryz.func40, Tryz.ntmps40
  go_wp2_with (first | (at_builtin; refine wpList_append_run rfl _ _ 22 22 rfl _ _ vk wk rfl rfl k1 ?_) | go_in)
  go_ret
  refine ⟨vk, rfl, HK.out.2.2, ?_, HK.out.1⟩
  have h1 := HK.out.2.1
  exact ⟨h1.os, h1.tape, h1.output, by have := h1.size; simp at this; omega, fun k hk _ => (h1.block k (by simp; omega) (by simp; omega)).trans ((New.alloc w _).block k hk (by simp))⟩

end Go.Proofs.YtgeoffpcmkofkaaGreat
