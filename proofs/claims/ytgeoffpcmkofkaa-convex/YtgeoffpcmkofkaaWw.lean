/- Three rows are made and laid into three new variables, in whatever order. -/
import Derived.Test.YtgeoffpcmkofkaaWv
namespace Go.Proofs.Ytgeoffpcmkofkaa
open Go.RowKit
set_option maxRecDepth 100000

def upd (f : Fin 3 → Value) (j : Fin 3) (v : Value) : Fin 3 → Value := fun i => if i = j then v else f i

theorem getD_set {listed : Array Bool} {i : Nat} (h : listed.getD i true = false) (k : Nat) : (listed.setIfInBounds i true).getD k false = if k = i then true else listed.getD k false := by
  have hi : i < listed.size := by
    rcases Nat.lt_or_ge i listed.size with h1 | h1
    · exact h1
    · simp [Array.getD, Nat.not_lt.2 h1] at h
  by_cases hk : k = i
  · subst hk; simp [Array.getD, hi]
  · by_cases hs : k < listed.size
    · simp [Array.getD, hs, hk, Ne.symm hk]
    · simp [Array.getD, hs, hk]

/-- What is known of the rows r and of the variables p, when the operations that are listed have come up. -/
structure Trio (W w : World) (t : TypeId) (z : Array Value) (R : Fin 3 → Value → World → Prop) (listed : Array Bool) (p r : Fin 3 → Value) : Prop where
  new : New W w
  row : ∀ j : Fin 3, listed.getD (2 + 3 * j.val) false = true → (∃ x0 x1 x2 : Value, r j = .agg #[x0, x1, x2]) ∧ R j (r j) w
  ptr : ∀ j : Fin 3, listed.getD (9 + j.val) false = true → ∃ b, p j = .pointer (some ⟨b, 0, none⟩) ∧ W.heap.size ≤ b ∧
    (listed.getD (12 + j.val) false = false → w.heap[b]? = some (.cells z t (0, 0))) ∧
    (listed.getD (12 + j.val) false = true → ∃ x0 x1 x2 : Value, r j = .agg #[x0, x1, x2] ∧ w.heap[b]? = some (.cells #[x0, x1, x2] t (0, 0)))
  dis : ∀ i j : Fin 3, i ≠ j → listed.getD (9 + i.val) false = true → listed.getD (9 + j.val) false = true → p i ≠ p j
  ord : ∀ j : Fin 3, listed.getD (12 + j.val) false = true → listed.getD (2 + 3 * j.val) false = true ∧ listed.getD (9 + j.val) false = true

section
variable {W w w' : World} {t : TypeId} {z : Array Value} {R : Fin 3 → Value → World → Prop} {listed : Array Bool} {p r : Fin 3 → Value}

theorem Trio.start (hn : New W w) (n : Nat) : Trio W w t z R (Array.replicate n false) p r := by
  have h : ∀ k, (Array.replicate n false).getD k false = false := by
    intro k
    by_cases hk : k < n <;> simp [Array.getD, hk]
  refine ⟨hn, fun j hj => ?_, fun j hj => ?_, fun i j _ hi => ?_, fun j hj => ?_⟩
  · rw [h] at hj; cases hj
  · rw [h] at hj; cases hj
  · rw [h] at hi; cases hi
  · rw [h] at hj; cases hj

theorem ord_set (h : ∀ j : Fin 3, listed.getD (12 + j.val) false = true → listed.getD (2 + 3 * j.val) false = true ∧ listed.getD (9 + j.val) false = true) {i : Nat} (hi : listed.getD i true = false) (hne : ∀ k : Fin 3, 12 + k.val ≠ i) :
    ∀ j : Fin 3, (listed.setIfInBounds i true).getD (12 + j.val) false = true → (listed.setIfInBounds i true).getD (2 + 3 * j.val) false = true ∧ (listed.setIfInBounds i true).getD (9 + j.val) false = true := by
  intro j hj
  rw [getD_set hi, if_neg (hne j)] at hj
  obtain ⟨h1, h2⟩ := h j hj
  rw [getD_set hi, getD_set hi, h1, h2]
  constructor <;> split <;> rfl

/-- A load has come up. -/
theorem Trio.load (h : Trio W w t z R listed p r) {i : Nat} (hi : listed.getD i true = false) (h1 : ∀ j : Fin 3, 2 + 3 * j.val ≠ i) (h2 : i < 9) : Trio W w t z R (listed.setIfInBounds i true) p r := by
  refine ⟨h.new, fun j hj => ?_, fun j hj => ?_, fun a b hab ha hb => ?_, ord_set h.ord hi (by intro k; omega)⟩
  · rw [getD_set hi, if_neg (h1 j)] at hj; exact h.row j hj
  · rw [getD_set hi, if_neg (by omega)] at hj
    rw [getD_set hi, if_neg (by omega)]; exact h.ptr j hj
  · rw [getD_set hi, if_neg (by omega)] at ha hb; exact h.dis a b hab ha hb

/-- A row has been made. -/
theorem Trio.call (h : Trio W w t z R listed p r) (hRn : ∀ j v w w', R j v w → New w w' → R j v w') (j : Fin 3) (hi : listed.getD (2 + 3 * j.val) true = false) (hn : New w w') {x0 x1 x2 : Value} (hR : R j (.agg #[x0, x1, x2]) w') :
    Trio W w' t z R (listed.setIfInBounds (2 + 3 * j.val) true) p (upd r j (.agg #[x0, x1, x2])) := by
  have hf : listed.getD (2 + 3 * j.val) false = false := by
    by_cases hs : 2 + 3 * j.val < listed.size
    · simpa [Array.getD, hs] using hi
    · simp [Array.getD, hs]
  refine ⟨h.new.trans' hn, fun k hk => ?_, fun k hk => ?_, fun a b hab ha hb => ?_, ord_set h.ord hi (by intro k; omega)⟩
  · by_cases hkj : k = j
    · subst hkj
      simp only [upd, if_true]
      exact ⟨⟨_, _, _, rfl⟩, hR⟩
    · rw [getD_set hi, if_neg (by intro e; apply hkj; apply Fin.ext; omega)] at hk
      simp only [upd, if_neg hkj]
      exact ⟨(h.row k hk).1, hRn _ _ _ _ (h.row k hk).2 hn⟩
  · rw [getD_set hi, if_neg (by omega)] at hk
    rw [getD_set hi, if_neg (by omega)]
    obtain ⟨b, h1, h2, h3, h4⟩ := h.ptr k hk
    refine ⟨b, h1, h2, fun hs => ?_, fun hs => ?_⟩
    · have := h3 hs
      rw [hn.block _ (lt_of_block this) (by simp)]; exact this
    · obtain ⟨y0, y1, y2, h5, h6⟩ := h4 hs
      have hkj : k ≠ j := by
        rintro rfl
        rw [(h.ord k hs).1] at hf; cases hf
      refine ⟨y0, y1, y2, by simp only [upd, if_neg hkj]; exact h5, ?_⟩
      rw [hn.block _ (lt_of_block h6) (by simp)]; exact h6
  · rw [getD_set hi, if_neg (by omega)] at ha hb; exact h.dis a b hab ha hb

/-- A variable has been made. -/
theorem Trio.alloc (h : Trio W w t z R listed p r) (hRn : ∀ j v w w', R j v w → New w w' → R j v w') (j : Fin 3) (hi : listed.getD (9 + j.val) true = false) :
    Trio W (w.alloc (.cells z t)) t z R (listed.setIfInBounds (9 + j.val) true) (upd p j (.pointer (some ⟨w.heap.size, 0, none⟩))) r := by
  have hn : New w (w.alloc (.cells z t)) := New.alloc w _
  have hst : listed.getD (12 + j.val) false = false := by
    rcases Bool.eq_false_or_eq_true (listed.getD (12 + j.val) false) with hs | hs
    · have h1 := (h.ord j hs).2
      have h2 : listed.getD (9 + j.val) true = true := by
        by_cases hs : 9 + j.val < listed.size
        · simpa [Array.getD, hs] using h1
        · simp [Array.getD, hs]
      rw [h2] at hi; cases hi
    · exact hs
  have old : ∀ k : Fin 3, k ≠ j → (listed.setIfInBounds (9 + j.val) true).getD (9 + k.val) false = true → listed.getD (9 + k.val) false = true := by
    intro k hkj hk
    rwa [getD_set hi, if_neg (by intro e; apply hkj; apply Fin.ext; omega)] at hk
  have lt : ∀ k : Fin 3, listed.getD (9 + k.val) false = true → ∃ b, p k = .pointer (some ⟨b, 0, none⟩) ∧ b < w.heap.size := by
    intro k hk
    obtain ⟨b, h1, _, h3, h4⟩ := h.ptr k hk
    refine ⟨b, h1, ?_⟩
    rcases Bool.eq_false_or_eq_true (listed.getD (12 + k.val) false) with hs | hs
    · obtain ⟨_, _, _, _, h6⟩ := h4 hs; exact lt_of_block h6
    · exact lt_of_block (h3 hs)
  refine ⟨h.new.trans' hn, fun k hk => ?_, fun k hk => ?_, fun a b hab ha hb => ?_, ord_set h.ord hi (by intro k; omega)⟩
  · rw [getD_set hi, if_neg (by omega)] at hk
    exact ⟨(h.row k hk).1, hRn _ _ _ _ (h.row k hk).2 hn⟩
  · rw [getD_set hi, if_neg (by omega)]
    by_cases hkj : k = j
    · subst hkj
      refine ⟨w.heap.size, by simp [upd], h.new.size, fun _ => _root_.Go.heap_alloc_new w _, fun hs => ?_⟩
      rw [hst] at hs; cases hs
    · have hk' := old k hkj hk
      obtain ⟨b, h1, h2, h3, h4⟩ := h.ptr k hk'
      refine ⟨b, by simp only [upd, if_neg hkj]; exact h1, h2, fun hs => ?_, fun hs => ?_⟩
      · have := h3 hs
        rw [hn.block _ (lt_of_block this) (by simp)]; exact this
      · obtain ⟨y0, y1, y2, h5, h6⟩ := h4 hs
        exact ⟨y0, y1, y2, h5, by rw [hn.block _ (lt_of_block h6) (by simp)]; exact h6⟩
  · by_cases haj : a = j
    · subst haj
      have hb' := old b (Ne.symm hab) hb
      obtain ⟨c, h1, h2⟩ := lt b hb'
      simp only [upd, if_true, if_neg (Ne.symm hab)]
      rw [h1]; simp only [ne_eq, Value.pointer.injEq, Option.some.injEq, Addr.mk.injEq, and_true]; omega
    · have ha' := old a haj ha
      by_cases hbj : b = j
      · subst hbj
        obtain ⟨c, h1, h2⟩ := lt a ha'
        simp only [upd, if_true, if_neg hab]
        rw [h1]; simp only [ne_eq, Value.pointer.injEq, Option.some.injEq, Addr.mk.injEq, and_true]; omega
      · simp only [upd, if_neg haj, if_neg hbj]
        exact h.dis a b hab ha' (old b hbj hb)

/-- A row has been laid into its variable. -/
theorem Trio.store (h : Trio W w t z R listed p r) (hRs : ∀ j v w b x0 x1 x2, R j v w → w.heap[b]? = some (.cells z t (0, 0)) → R j v (((w.setCell ⟨b, 0, none⟩ x0).setCell ⟨b, 1, none⟩ x1).setCell ⟨b, 2, none⟩ x2)) (j : Fin 3) (hi : listed.getD (12 + j.val) true = false)
    {b : Nat} {x0 x1 x2 y0 y1 y2 : Value} (hz : z = #[y0, y1, y2]) (hp : p j = .pointer (some ⟨b, 0, none⟩)) (hr : r j = .agg #[x0, x1, x2]) (hb : w.heap[b]? = some (.cells z t (0, 0))) (hW : W.heap.size ≤ b) (hj : listed.getD (9 + j.val) false = true) (hcl : listed.getD (2 + 3 * j.val) false = true) :
    Trio W (((w.setCell ⟨b, 0, none⟩ x0).setCell ⟨b, 1, none⟩ x1).setCell ⟨b, 2, none⟩ x2) t z R (listed.setIfInBounds (12 + j.val) true) p r := by
  have hlt := lt_of_block hb
  have oth : ∀ c, c ≠ b → (((w.setCell ⟨b, 0, none⟩ x0).setCell ⟨b, 1, none⟩ x1).setCell ⟨b, 2, none⟩ x2).heap[c]? = w.heap[c]? := by
    intro c hc
    rw [heap_setCell_other _ ⟨b, 2, none⟩ c x2 hc, heap_setCell_other _ ⟨b, 1, none⟩ c x1 hc, heap_setCell_other _ ⟨b, 0, none⟩ c x0 hc]
  have own : (((w.setCell ⟨b, 0, none⟩ x0).setCell ⟨b, 1, none⟩ x1).setCell ⟨b, 2, none⟩ x2).heap[b]? = some (.cells #[x0, x1, x2] t (0, 0)) := by
    rw [hz] at hb
    have s1 : ∀ (u : World) (cs : Array Value) (o : Nat) (x : Value), u.heap[b]? = some (.cells cs t (0, 0)) → (u.setCell ⟨b, o, none⟩ x).heap[b]? = some (.cells (cs.setIfInBounds o x) t (0, 0)) := by
      intro u cs o x hu
      have hl := lt_of_block hu
      have h' : u.heap[b] = .cells cs t (0, 0) := by simpa [Array.getElem?_eq_getElem hl] using hu
      show (u.heap.modify b _)[b]? = _
      rw [Array.getElem?_eq_getElem (by simpa using hl), Array.getElem_modify_self, h']
      rfl
    have := s1 _ _ 2 x2 (s1 _ _ 1 x1 (s1 _ _ 0 x0 hb))
    simpa using this
  have hB := ((((New.below' h.new).setCell (p := ⟨b, 0, none⟩) hW x0).setCell (p := ⟨b, 1, none⟩) hW x1).setCell (p := ⟨b, 2, none⟩) hW x2)
  refine ⟨Below.new' hB, fun k hk => ?_, fun k hk => ?_, fun a c hac ha hc => ?_, fun k hk => ?_⟩
  · rw [getD_set hi, if_neg (by omega)] at hk
    exact ⟨(h.row k hk).1, hRs _ _ _ _ _ _ _ (h.row k hk).2 hb⟩
  · rw [getD_set hi, if_neg (by omega)] at hk
    by_cases hkj : k = j
    · subst hkj
      refine ⟨b, hp, hW, fun hs => ?_, fun _ => ⟨x0, x1, x2, hr, own⟩⟩
      rw [getD_set hi, if_pos rfl] at hs; cases hs
    · rw [getD_set hi, if_neg (by intro e; apply hkj; apply Fin.ext; omega)]
      obtain ⟨c, h1, h2, h3, h4⟩ := h.ptr k hk
      have hcb : c ≠ b := by
        rintro rfl
        exact h.dis k j hkj hk hj (h1.trans hp.symm)
      refine ⟨c, h1, h2, fun hs => ?_, fun hs => ?_⟩
      · rw [oth c hcb]; exact h3 hs
      · obtain ⟨y0, y1, y2, h5, h6⟩ := h4 hs
        exact ⟨y0, y1, y2, h5, by rw [oth c hcb]; exact h6⟩
  · rw [getD_set hi, if_neg (by omega)] at ha hc; exact h.dis a c hac ha hc
  · rw [getD_set hi (2 + 3 * k.val), getD_set hi (9 + k.val), if_neg (by omega), if_neg (by omega)]
    by_cases hkj : k = j
    · subst hkj; exact ⟨hcl, hj⟩
    · rw [getD_set hi, if_neg (by intro e; apply hkj; apply Fin.ext; omega)] at hk
      exact h.ord k hk
end

/-- The points that have been loaded. -/
structure Lds (listed : Array Bool) (pa pb pc pd s0 s1 s3 s4 s6 s7 : Value) : Prop where
  l0 : listed.getD 0 false = true → s0 = pa
  l1 : listed.getD 1 false = true → s1 = pd
  l3 : listed.getD 3 false = true → s3 = pb
  l4 : listed.getD 4 false = true → s4 = pd
  l6 : listed.getD 6 false = true → s6 = pc
  l7 : listed.getD 7 false = true → s7 = pd

section
variable {listed : Array Bool} {pa pb pc pd s0 s1 s3 s4 s6 s7 : Value}
theorem Lds.start (n : Nat) : Lds (Array.replicate n false) pa pb pc pd s0 s1 s3 s4 s6 s7 := by
  have h : ∀ k, (Array.replicate n false).getD k false = false := by
    intro k
    by_cases hk : k < n <;> simp [Array.getD, hk]
  refine ⟨?_, ?_, ?_, ?_, ?_, ?_⟩ <;> (intro hh; rw [h] at hh; cases hh)

theorem Lds.keep (h : Lds listed pa pb pc pd s0 s1 s3 s4 s6 s7) {i : Nat} (hi : listed.getD i true = false) (hne : i ≠ 0 ∧ i ≠ 1 ∧ i ≠ 3 ∧ i ≠ 4 ∧ i ≠ 6 ∧ i ≠ 7) : Lds (listed.setIfInBounds i true) pa pb pc pd s0 s1 s3 s4 s6 s7 := by
  refine ⟨?_, ?_, ?_, ?_, ?_, ?_⟩
  all_goals (intro hh; rw [getD_set hi, if_neg (by omega)] at hh)
  · exact h.l0 hh
  · exact h.l1 hh
  · exact h.l3 hh
  · exact h.l4 hh
  · exact h.l6 hh
  · exact h.l7 hh

theorem Lds.set0 (h : Lds listed pa pb pc pd s0 s1 s3 s4 s6 s7) (hi : listed.getD 0 true = false) : Lds (listed.setIfInBounds 0 true) pa pb pc pd pa s1 s3 s4 s6 s7 := by
  refine ⟨fun _ => rfl, ?_, ?_, ?_, ?_, ?_⟩ <;> (intro hh; rw [getD_set hi, if_neg (by omega)] at hh)
  all_goals first | exact h.l0 hh | exact h.l1 hh | exact h.l3 hh | exact h.l4 hh | exact h.l6 hh | exact h.l7 hh
theorem Lds.set1 (h : Lds listed pa pb pc pd s0 s1 s3 s4 s6 s7) (hi : listed.getD 1 true = false) : Lds (listed.setIfInBounds 1 true) pa pb pc pd s0 pd s3 s4 s6 s7 := by
  refine ⟨?_, fun _ => rfl, ?_, ?_, ?_, ?_⟩ <;> (intro hh; rw [getD_set hi, if_neg (by omega)] at hh)
  all_goals first | exact h.l0 hh | exact h.l1 hh | exact h.l3 hh | exact h.l4 hh | exact h.l6 hh | exact h.l7 hh
theorem Lds.set3 (h : Lds listed pa pb pc pd s0 s1 s3 s4 s6 s7) (hi : listed.getD 3 true = false) : Lds (listed.setIfInBounds 3 true) pa pb pc pd s0 s1 pb s4 s6 s7 := by
  refine ⟨?_, ?_, fun _ => rfl, ?_, ?_, ?_⟩ <;> (intro hh; rw [getD_set hi, if_neg (by omega)] at hh)
  all_goals first | exact h.l0 hh | exact h.l1 hh | exact h.l3 hh | exact h.l4 hh | exact h.l6 hh | exact h.l7 hh
theorem Lds.set4 (h : Lds listed pa pb pc pd s0 s1 s3 s4 s6 s7) (hi : listed.getD 4 true = false) : Lds (listed.setIfInBounds 4 true) pa pb pc pd s0 s1 s3 pd s6 s7 := by
  refine ⟨?_, ?_, ?_, fun _ => rfl, ?_, ?_⟩ <;> (intro hh; rw [getD_set hi, if_neg (by omega)] at hh)
  all_goals first | exact h.l0 hh | exact h.l1 hh | exact h.l3 hh | exact h.l4 hh | exact h.l6 hh | exact h.l7 hh
theorem Lds.set6 (h : Lds listed pa pb pc pd s0 s1 s3 s4 s6 s7) (hi : listed.getD 6 true = false) : Lds (listed.setIfInBounds 6 true) pa pb pc pd s0 s1 s3 s4 pc s7 := by
  refine ⟨?_, ?_, ?_, ?_, fun _ => rfl, ?_⟩ <;> (intro hh; rw [getD_set hi, if_neg (by omega)] at hh)
  all_goals first | exact h.l0 hh | exact h.l1 hh | exact h.l3 hh | exact h.l4 hh | exact h.l6 hh | exact h.l7 hh
theorem Lds.set7 (h : Lds listed pa pb pc pd s0 s1 s3 s4 s6 s7) (hi : listed.getD 7 true = false) : Lds (listed.setIfInBounds 7 true) pa pb pc pd s0 s1 s3 s4 s6 pd := by
  refine ⟨?_, ?_, ?_, ?_, ?_, fun _ => rfl⟩ <;> (intro hh; rw [getD_set hi, if_neg (by omega)] at hh)
  all_goals first | exact h.l0 hh | exact h.l1 hh | exact h.l3 hh | exact h.l4 hh | exact h.l6 hh | exact h.l7 hh
end

theorem wpK {P : Program} {o : Oper} {a : Act} {w : World} {Q : Exit → Act → World → Prop} {I' : Act → World → Prop} (h : ∀ K' : Act → World → Prop, Hid (∀ a w, I' a w → K' a w) → o.wp P a w K' Q) : o.wp P a w I' Q := h I' (fun _ _ h => h)

end Go.Proofs.Ytgeoffpcmkofkaa
