/- Ob; Oc; Qa; Qb; Qc; Qd; Ha: texts laid into one. -/
import Derived.Test.YtgeoffpcmkofkaaQad
import Derived.Test.YtgeoffpcmkofkaaQae
import Derived.Sort.OwnSorted
import Derived.Lib.SliceRun
import Derived.Deep.RegionHeld3
import Derived.Lib.AppendZeros
import Derived.Shelf.SlSortCmp.NoneTotal
import Derived.Calls
/- The library's sort by a comparison, over rows of points, of directed sides and of triangles. -/
namespace Go.Proofs.Ytgeoffpcmkofkaa
open Go.RowKit Fl Go.Sort Go.Shelf Go.Lib
set_option maxRecDepth 100000

theorem flat_length {α : Type} {enc : α → List Value} {k : Nat} (hk : ∀ x, (enc x).length = k) : ∀ l : List α, (l.flatMap enc).length = l.length * k
  | [] => by simp
  | x :: l => by simp [List.flatMap_cons, flat_length hk l, hk, Nat.add_mul]; omega
section
variable {α : Type} [Inhabited α] {enc : α → List Value} {k : Nat}
theorem flat_get (hk : ∀ x, (enc x).length = k) : ∀ (l : List α) (t : Nat), t < l.length * k → (l.flatMap enc)[t]? = (enc l.toArray[t / k]!)[t % k]?
  | [], t, h => by simp at h
  | x :: l, t, h => by
    have k0 : 0 < k := by
      rcases Nat.eq_zero_or_pos k with h0 | h0
      · subst h0; simp at h
      · exact h0
    rw [List.flatMap_cons]
    rcases Nat.lt_or_ge t k with h1 | h1
    · rw [List.getElem?_append_left (by rw [hk]; exact h1), Nat.div_eq_of_lt h1, Nat.mod_eq_of_lt h1]
      rfl
    · obtain ⟨d, rfl⟩ := Nat.exists_eq_add_of_le h1
      rw [List.getElem?_append_right (by rw [hk]; exact h1), hk, Nat.add_sub_cancel_left, flat_get hk l d (by simp [Nat.add_mul] at h; omega)]
      rw [Nat.add_div_left _ k0, Nat.add_mod_left]
      simp
theorem flatK_list (hk : ∀ x, (enc x).length = k) (l : List α) : (flatK enc k l.toArray).toList = l.flatMap enc := by
  apply List.ext_getElem?
  intro t
  rcases Nat.lt_or_ge t (l.length * k) with h | h
  · rw [flat_get hk l t h]
    have k0 : 0 < k := by
      rcases Nat.eq_zero_or_pos k with h0 | h0
      · subst h0; simp at h
      · exact h0
    have hm : t % k < (enc l.toArray[t / k]!).length := by rw [hk]; exact Nat.mod_lt _ k0
    have hs : t < (flatK enc k l.toArray).size := by simp [h]
    rw [Array.getElem?_toList, Array.getElem?_eq_getElem hs, List.getElem?_eq_getElem hm]
    have := get_flatK enc k l.toArray t (by simpa using h)
    rw [getElem!_pos (flatK enc k l.toArray) t hs] at this
    rw [this, getElem!_pos (enc l.toArray[t / k]!) (t % k) hm]
  · rw [List.getElem?_eq_none (by simpa using h), List.getElem?_eq_none (by rw [flat_length hk]; exact h)]

theorem holdsK_row (hk : ∀ x, (enc x).length = k) {w : World} {base e g n cap : Nat} {l : List α} (h : w.ownsRow base e k (.slice (some ⟨g, 0, none⟩) n cap) n (l.flatMap enc)) (hl : l.length = n) : HoldsK enc k w g 0 l.toArray := by
  intro j hj
  have hj' : j < n * k := by simpa [hl] using hj
  have hc := h.cellAt j hj'
  rcases h.2 with ⟨h', _⟩ | ⟨g', cap', cur, h', _, hg, _⟩
  · simp at h'
  · simp only [Value.slice.injEq, Option.some.injEq, Addr.mk.injEq, and_true, true_and] at h'
    obtain ⟨rfl, _⟩ := h'
    refine ⟨?_, by simp [World.frozen?, hg]⟩
    rw [Nat.zero_add, hc, ← flatK_list hk, Array.getElem?_toList, Array.getElem?_eq_getElem hj, getElem!_pos _ j hj]
    rfl

/-- What the sort leaves. -/
theorem sorted_row (hk : ∀ x, (enc x).length = k) {w : World} {base e g n cap m : Nat} {os : Array Obj} {l l' : List α} (h : w.ownsRow base e k (.slice (some ⟨g, 0, none⟩) n cap) n (l.flatMap enc)) (hl : l.length = n) (hl' : l'.length = n) :
    (sortWorldK enc k w g 0 m l'.toArray os).ownsRow base e k (.slice (some ⟨g, 0, none⟩) n cap) n (l'.flatMap enc) ∧ w.grownBy (sortWorldK enc k w g 0 m l'.toArray os) (some g) := by
  have hH := holdsK_row hk h hl
  rcases h.2 with ⟨h', _⟩ | ⟨g', cap', cur, h', hb, hg, h3, h4, h5, h6⟩
  · simp at h'
  · simp only [Value.slice.injEq, Option.some.injEq, Addr.mk.injEq, and_true, true_and] at h'
    obtain ⟨rfl, rfl⟩ := h'
    have hlt : g < w.heap.size := (Array.getElem?_eq_some_iff.1 hg).1
    have hheap : (sortWorldK enc k w g 0 m l'.toArray os).heap[g]? = some (.cells (putCells id 0 (flatK enc k l'.toArray) cur) e (0, 0)) := by
      unfold sortWorldK putRowK
      rw [heap_grow_old _ _ (by simpa using hlt)]
      simp [putRow, mapBlock, Sort.ahead, Array.getElem?_modify, hg, onCells]
    have hH' := holdsK_sortWorldK enc k w g 0 m l.toArray l'.toArray os hlt hH (by simp [hl, hl'])
    refine ⟨⟨by rw [flat_length hk, hl'], .inr ⟨g, cap, _, rfl, hb, hheap, h3, h4, by simp [putCells, h5], ?_⟩⟩, rfl, rfl, rfl, ?_, fun j hj hne => ?_⟩
    · apply List.ext_getElem?
      intro j
      rcases Nat.lt_or_ge j (n * k) with hj | hj
      · rw [List.getElem?_take_of_lt hj]
        have := (hH' j (by simp [hl', hj])).1
        rw [Nat.zero_add] at this
        simp only [World.cell?, hheap] at this
        simp only [Option.isSome_none, Bool.false_eq_true, if_false] at this
        rw [Array.getElem?_toList, this]
        have hs : j < (flatK enc k l'.toArray).size := by simp [hl', hj]
        rw [← flatK_list hk, Array.getElem?_toList, Array.getElem?_eq_getElem hs, getElem!_pos _ j hs]
        rfl
      · rw [List.getElem?_eq_none (by simp; omega), List.getElem?_eq_none (by rw [flat_length hk, hl']; exact hj)]
    · unfold sortWorldK putRowK putRow mapBlock grow Sort.ahead; simp
    · unfold sortWorldK putRowK
      rw [heap_grow_old _ _ (by simpa using hj)]
      have : g ≠ j := fun e => hne (by rw [e])
      simp [putRow, mapBlock, Sort.ahead, Array.getElem?_modify, this]

theorem permIn_list {l : List α} {d' : Array α} (h : PermIn 0 l.length l.toArray d') : d'.toList.Perm l ∧ d'.toList.length = l.length := by
  have hs : d'.size = l.length := by simpa using h.1
  have := h.2.2
  have e1 : (d'.extract 0 l.length).toList = d'.toList := by rw [← hs]; simp
  have e2 : (l.toArray.extract 0 l.length).toList = l := by simp
  rw [e1, e2] at this
  exact ⟨this, by simpa using hs⟩
theorem sortedIn_list {lt : α → α → Bool} {d' : Array α} {n : Nat} (hn : d'.size = n) (h : SortedIn lt 0 n d') : d'.toList.Pairwise (fun x y => lt y x = false) := by
  rw [List.pairwise_iff_getElem]
  intro i j hi hj hij
  have := h i j (Nat.zero_le _) hij (by simpa [hn] using hj)
  rw [getElem!_pos d' i (by simpa using hi), getElem!_pos d' j (by simpa using hj)] at this
  simpa using this
end

end Go.Proofs.Ytgeoffpcmkofkaa
/- What the library's sort makes of points, of directed sides and of triangles. -/
namespace Go.Proofs.Ytgeoffpcmkofkaa
open Go.RowKit Fl Go.Sort Go.Shelf Go.Lib
set_option maxRecDepth 100000

def encP (p : Pt) : List Value := [.int .i64 p.1, .int .i64 p.2]
theorem orI_neg (s t : Int) : orI s t < 0 ↔ s < 0 ∨ s = 0 ∧ t < 0 := by
  unfold orI; split <;> omega
theorem orI_zero (s t : Int) : orI s t = 0 ↔ s = 0 ∧ t = 0 := by
  unfold orI; split <;> omega
theorem cmpP_neg (a b : Pt) : cmpP a b < 0 ↔ a.1 < b.1 ∨ a.1 = b.1 ∧ a.2 < b.2 := by
  unfold cmpP
  rw [orI_neg, sgn_neg', sgn_zero, sgn_neg']
  omega
theorem cmpP_zero (a b : Pt) : cmpP a b = 0 ↔ a = b := by
  unfold cmpP
  rw [orI_zero, sgn_zero, sgn_zero]
  constructor
  · rintro ⟨h1, h2⟩; exact pt_ext (by omega) (by omega)
  · rintro rfl; omega
theorem ltOf_iff {α : Type} (cf : α → α → Int) (x y : α) : ltOf cf x y = true ↔ cf x y < 0 := by simp [ltOf]
theorem ltOf_not {α : Type} (cf : α → α → Int) (x y : α) : ltOf cf x y = false ↔ ¬cf x y < 0 := by simp [ltOf]

theorem swoP : SWO (ltOf cmpP) where
  irrefl x := by rw [ltOf_not, cmpP_neg]; omega
  trans x y z h1 h2 := by rw [ltOf_iff, cmpP_neg] at *; omega
  ntrans x y z h1 h2 := by rw [ltOf_not, cmpP_neg] at *; omega
theorem pt_eq_iff (p q : Pt) : p = q ↔ p.1 = q.1 ∧ p.2 = q.2 := ⟨fun h => by rw [h]; exact ⟨rfl, rfl⟩, fun h => pt_ext h.1 h.2⟩
theorem laysP (blk off size : Nat) (w : World) : CmpLays Try.prog 85 #[] encP 2 cmpP blk off size w :=
  fun _ _ _ _ x y => (compare_gr x.1 x.2 y.1 y.2 _).mono fun _ _ h => ⟨h.1, h.2.out⟩
theorem lenP (x : Pt) : (encP x).length = 2 := rfl
theorem sortP_any (base g cap : Nat) (l : List Pt) (w : World) (h : w.ownsRow base 23 2 (.slice (some ⟨g, 0, none⟩) l.length cap) l.length (l.flatMap encP)) (hg : g < w.heap.size) (hl : l.length < 4611686018427387904) :
    Calls Try.prog 101 #[.slice (some ⟨g, 0, none⟩) l.length cap, .func (.func 85) #[] #[]] w fun e w' => e = .returned (.tuple #[]) ∧
      Hid (∃ l' : List Pt, l'.Perm l ∧ l'.Pairwise (fun x y => ltOf cmpP y x = false) ∧ w'.ownsRow base 23 2 (.slice (some ⟨g, 0, none⟩) l.length cap) l.length (l'.flatMap encP) ∧ w.grownBy w' (some g)) := by
  have eg : ∀ args w, (callFunc 85 args).run Try.prog w = .ok (.enter 85 args) w := enters_of Try.func85 (by kernel_rfl) rfl
  have hc := AnyQ.slices_SortFunc Try.sortP 2 Try.isAgg23 Try.sizeOf23 encP lenP (fun x v hv => by simp [encP] at hv; rcases hv with rfl | rfl <;> rfl) cmpP swoP 85 #[] g 0 cap l.toArray w eg (laysP _ _ _ _) (holdsK_row lenP h rfl) hg (by simpa using hl)
  change Calls Try.prog 101 _ _ _ at hc
  refine hc.mono fun e w' hh => ?_
  obtain ⟨he, d', m, os, hp, hs, rfl⟩ := hh
  have hp' := permIn_list hp
  have hs' := sortedIn_list (n := l.length) (by simpa using hp.1) hs
  have hr := sorted_row lenP (m := m) (os := os) (l' := d'.toList) h rfl hp'.2
  refine ⟨he, d'.toList, hp'.1, hs', ?_⟩
  simpa using hr
end Go.Proofs.Ytgeoffpcmkofkaa
/- The walks of 'Clone' and 'Compact' of package slices, at points. -/
namespace Go.Proofs.Ytgeoffpcmkofkaa
open Go.RowKit Fl
set_option maxRecDepth 100000
attribute [local go_sem ↓] Go.wp_at_zero Go.wp_at_succ

theorem flatP_eq : ∀ l : Pts, flatP l = l.flatMap encP
  | [] => rfl
  | p :: l => by simp [flatP, encP, flatP_eq l]
/-- A row of points, which the call has made. -/
def OwnP (w : World) (base : Nat) (v : Value) (l : Pts) : Prop := w.ownsRow base 23 2 v l.length (l.flatMap encP)
theorem encP_one : ∀ (l : Pts), ∀ v ∈ l.flatMap encP, v.oneCell' = true := by
  intro l; rw [← flatP_eq]; exact flatP_one l
theorem OwnP.cell {w : World} {base g cap : Nat} {l : Pts} (h : OwnP w base (.slice (some ⟨g, 0, none⟩) l.length cap) l) {i : Nat} (hi : i < l.length) :
    w.cell? ⟨g, i * 2, none⟩ = some (.int .i64 l[i].1) ∧ w.cell? ⟨g, i * 2 + 1, none⟩ = some (.int .i64 l[i].2) := by
  have := flatP_get l i hi
  rw [flatP_eq] at this
  exact ⟨(World.ownsRow.cellAt h (i * 2) (by omega)).trans this.1, (World.ownsRow.cellAt h (i * 2 + 1) (by omega)).trans this.2⟩
theorem OwnP.form {w : World} {base : Nat} {v : Value} {l : Pts} (h : OwnP w base v l) : (v = .slice none 0 0 ∧ l = []) ∨ ∃ g cap, v = .slice (some ⟨g, 0, none⟩) l.length cap ∧ base ≤ g ∧ g < w.heap.size ∧ l.length ≤ cap ∧ cap ≤ maxLen := by
  rcases h.2 with ⟨e, hn⟩ | ⟨g, cap, cur, e, hb, hg, h1, h2, _⟩
  · exact .inl ⟨e, List.eq_nil_of_length_eq_zero hn⟩
  · exact .inr ⟨g, cap, e, hb, (Array.getElem?_eq_some_iff.1 hg).1, h1, h2⟩
theorem OwnP.new {w w' : World} {base : Nat} {v : Value} {l : Pts} (h : OwnP w base v l) (hg : New w w') : OwnP w' base v l := World.ownsRow.kept h hg (by cases v.ownBlock <;> simp)
theorem OwnP.pts {w : World} {base g cap : Nat} {l : Pts} (h : OwnP w base (.slice (some ⟨g, 0, none⟩) l.length cap) l) : PtsAt w g 0 l := by
  intro i hi
  rw [Nat.zero_add]
  exact h.cell hi

theorem flat_set (l : Pts) (k : Nat) (p : Pt) (hk : k < l.length) : (l.set k p).flatMap encP = ((l.flatMap encP).set (k * 2) (.int .i64 p.1)).set (k * 2 + 1) (.int .i64 p.2) := by
  induction l generalizing k with
  | nil => simp at hk
  | cons a l ih =>
    cases k with
    | zero => simp [encP]
    | succ k =>
      have := ih k (by simpa using hk)
      have e1 : (k + 1) * 2 = k * 2 + 1 + 1 := by omega
      rw [e1]
      simp only [List.set_cons_succ, List.flatMap_cons, this]
      simp [encP]
theorem OwnP.set {w : World} {base g cap : Nat} {l : Pts} (h : OwnP w base (.slice (some ⟨g, 0, none⟩) l.length cap) l) {k : Nat} (hk : k < l.length) (p : Pt) :
    OwnP ((w.setCell ⟨g, k * 2, none⟩ (.int .i64 p.1)).setCell ⟨g, k * 2 + 1, none⟩ (.int .i64 p.2)) base (.slice (some ⟨g, 0, none⟩) l.length cap) (l.set k p) ∧ w.grownBy ((w.setCell ⟨g, k * 2, none⟩ (.int .i64 p.1)).setCell ⟨g, k * 2 + 1, none⟩ (.int .i64 p.2)) (some g) := by
  have s1 := World.ownsRow.stored h (k * 2) (.int .i64 p.1)
  have s2 := World.ownsRow.stored s1.1 (k * 2 + 1) (.int .i64 p.2)
  refine ⟨?_, s1.2.trans s2.2⟩
  unfold OwnP
  rw [flat_set l k p hk, List.length_set]
  exact s2.1

end Go.Proofs.Ytgeoffpcmkofkaa
/- The walks of 'Clone' and 'Compact' of package slices, at points. -/
namespace Go.Proofs.Ytgeoffpcmkofkaa
open Go.RowKit Fl
set_option maxRecDepth 100000
attribute [local go_sem ↓] Go.wp_at_zero Go.wp_at_succ

theorem New.dr {w w1 : World} (h : New w w1) : New w w1.drew := ⟨h.os, h.tape, h.output, h.size, h.block⟩
theorem zero23 (w : World) : (zeroValue 23).run Try.prog w = .ok (.agg #[.int .i64 0, .int .i64 0]) w := by kernel_rfl
set_option maxHeartbeats 800000 in
theorem clone_nil (w : World) : Calls Try.prog 100 #[.slice none 0 0] w fun e w' => e = .returned (.slice none 0 0) ∧ Hid (New w w') := by
  have h := eq_nil_none w
  go_enter Try.func100, Try.ntmps100
  go_wp2_with fail
  go_ret
  exact ⟨rfl, New.refl _⟩

set_option maxHeartbeats 800000 in
theorem clone_some (g off cap : Nat) (l : Pts) (w : World) (hp : PtsAt w g off l) (hl : l.length ≤ 1000000) :
    Calls Try.prog 100 #[.slice (some ⟨g, off, none⟩) l.length cap] w fun e w' => ∃ v, e = .returned v ∧ v ≠ .slice none 0 0 ∧ Hid (New w w' ∧ OwnP w' w.heap.size v l) := by
  have h := eq_nil_some ⟨g, off, none⟩ l.length cap w
  have HP : Hid (PtsAt w g off l) := hp
  clear hp
  obtain ⟨i0, hi0, hz0, hz1, hz2⟩ := info_parts Try.info23
  have hown : Hid ((w.alloc (.cells #[] 23)).ownsRow w.heap.size 23 2 (.slice (some ⟨w.heap.size, 0, none⟩) 0 0) 0 []) := World.ownsRow_lit w #[] 0 (Nat.le_refl _) (by unfold maxLen; omega) (by simp)
  obtain ⟨vk, wk, k1, k2, k3, k4⟩ := run_append_own (P := Try.prog) (w.alloc (.cells #[] 23)) w.heap.size 28 28 23 i0 _ 2 16 Try.underlying28 hi0 hz0 hz1 hz2 rfl (by omega) _ 0 [] hown.out ⟨g, off, none⟩ l.length cap (l.flatMap encP) (flat_length lenP l)
    (fun j u hu => by rw [← flatP_eq] at hu; exact (New.alloc w _).kept' (pts_cells HP.out j u hu)) (encP_one l) (by unfold maxLen; omega) (by omega) (by simp)
  rw [Nat.zero_add, List.nil_append] at k2
  have HK : Hid (wk.ownsRow w.heap.size 23 2 vk l.length (l.flatMap encP) ∧ (w.alloc (.cells #[] 23)).grownBy wk (some w.heap.size) ∧ vk ≠ .slice none 0 0) := ⟨k2, k3, fun e => by have := (k4.1 e).1; simp at this⟩
  clear k2 k3 k4 hown hi0 hz0 hz1 hz2
  go_enter Try.func100, Try.ntmps100
  go_wp2_with (first | (at_builtin; refine Go.Lib.wpList_append_run _ rfl _ _ 28 28 rfl _ _ rfl rfl vk wk k1 ?_) | go_in)
  go_ret
  refine ⟨vk, rfl, HK.out.2.2, ?_, HK.out.1⟩
  have h1 := HK.out.2.1
  exact ⟨h1.os, h1.tape, h1.output, by have := h1.size; simp at this; omega, fun k hk _ => (h1.block k (by simp; omega) (by simp; omega)).trans ((New.alloc w _).block k hk (by simp))⟩

end Go.Proofs.Ytgeoffpcmkofkaa
/- The walk of 'Compact' of package slices, at points. -/
namespace Go.Proofs.Ytgeoffpcmkofkaa
open Go.RowKit Fl
set_option maxRecDepth 100000
attribute [local go_sem ↓] Go.wp_at_zero Go.wp_at_succ

/-- The first k of them, without those that are as the one ahead. -/
def ddN (l : Pts) : Nat → Pts
  | 0 => []
  | k + 1 => match l[k]? with
    | none => ddN l k
    | some p => if 0 < k ∧ l[k - 1]? = some p then ddN l k else ddN l k ++ [p]
theorem ddN_same {l : Pts} {k : Nat} {p : Pt} (h : l[k]? = some p) (h0 : 0 < k) (h1 : l[k - 1]? = some p) : ddN l (k + 1) = ddN l k := by
  simp only [ddN, h]; rw [if_pos ⟨h0, h1⟩]
theorem ddN_other {l : Pts} {k : Nat} {p : Pt} (h : l[k]? = some p) (h1 : 0 < k → l[k - 1]? ≠ some p) : ddN l (k + 1) = ddN l k ++ [p] := by
  simp only [ddN, h]; rw [if_neg (fun c => h1 c.1 c.2)]
theorem ddN_le (l : Pts) : ∀ k, (ddN l k).length ≤ k
  | 0 => by simp [ddN]
  | k + 1 => by
    have := ddN_le l k
    unfold ddN
    split
    · omega
    · split
      · omega
      · simp; omega

theorem ddN_take {l : Pts} {k : Nat} {p q : Pt} (hp : l[k]? = some p) (hq : l[k + 1]? = some q) (hne : q ≠ p) (h : ddN l (k + 1) = l.take (k + 1)) : ddN l (k + 1 + 1) = l.take (k + 1 + 1) := by
  rw [ddN_other hq (fun _ => by simp [hp]; exact fun c => hne c.symm), h, List.take_add_one (i := k + 1), hq]
  rfl
theorem ddN_one {l : Pts} (h : 0 < l.length) : ddN l 1 = l.take 1 := by
  have e : l[0]? = some l[0] := List.getElem?_eq_getElem h
  rw [ddN_other e (fun c => by omega)]
  cases l with
  | nil => simp at h
  | cons a l => simp [ddN]
theorem ddN_short {l : Pts} (h : l.length < 2) : ddN l l.length = l := by
  match l, h with
  | [], _ => rfl
  | [a], _ => rfl

/-- A shorter row. -/
theorem own_shrink {w : World} {base e size g n cap c : Nat} {xs : List Value} (h : w.ownsRow base e size (.slice (some ⟨g, 0, none⟩) n cap) n xs) (hc : c ≤ n) : w.ownsRow base e size (.slice (some ⟨g, 0, none⟩) c cap) c (xs.take (c * size)) := by
  rcases h.2 with ⟨h', _⟩ | ⟨g', cap', cur, h', hb, hg, h3, h4, h5, h6⟩
  · simp at h'
  · simp only [Value.slice.injEq, Option.some.injEq, Addr.mk.injEq, and_true, true_and] at h'
    obtain ⟨rfl, rfl⟩ := h'
    have hle : c * size ≤ n * size := Nat.mul_le_mul_right _ hc
    refine ⟨by rw [List.length_take, h.1]; omega, .inr ⟨g, cap, cur, rfl, hb, hg, by omega, h4, h5, ?_⟩⟩
    rw [← h6, List.take_take, Nat.min_eq_left hle]
/-- Writes behind its head. -/
theorem own_behind {base e size g n cap : Nat} : ∀ (vs : List Value) (o : Nat) {w : World} {xs : List Value}, w.ownsRow base e size (.slice (some ⟨g, 0, none⟩) n cap) n xs →
    ∃ ys, (w.setCells g o vs).ownsRow base e size (.slice (some ⟨g, 0, none⟩) n cap) n ys ∧ ys.take o = xs.take o ∧ w.grownBy (w.setCells g o vs) (some g)
  | [], o, w, xs, h => ⟨xs, h, rfl, ⟨rfl, rfl, rfl, Nat.le_refl _, fun _ _ _ => rfl⟩⟩
  | v :: vs, o, w, xs, h => by
    have s := World.ownsRow.stored h o v
    obtain ⟨ys, h1, h2, h3⟩ := own_behind vs (o + 1) s.1
    refine ⟨ys, h1, ?_, s.2.trans h3⟩
    have e1 : ys.take o = (ys.take (o + 1)).take o := by rw [List.take_take]; congr 1; omega
    rw [e1, h2, List.take_take, Nat.min_eq_left (by omega), List.take_set_of_le (Nat.le_refl _)]
theorem clear_pairs (w : World) (ty b o n c : Nat) (hn : 0 < n) (hc : ∀ j, j < n * 2 → (w.cell? ⟨b, o + j, none⟩).isSome = true) (hf : ∀ j, j < n * 2 → w.frozen? ⟨b, o + j, none⟩ = false) :
    (Builtin.clear_ #[28] ty #[.slice (some ⟨b, o, none⟩) n c]).run Try.prog w = .ok (.tuple #[]) (w.setCells b o (List.replicate (n * 2) (.int .i64 0))) := by
  have hzc : (Builtin.zeroCells #[.int .i64 0, .int .i64 0] n).toList = List.replicate (n * 2) (.int .i64 0) := by
    apply List.ext_getElem
    · simp [Builtin.zeroCells]
    · intro i h1 h2
      simp [Builtin.zeroCells]
      rcases Nat.mod_two_eq_zero_or_one i with k | k <;> rw [k] <;> rfl
  have hst := run_storeCells_cells (P := Try.prog) b o (List.replicate (n * 2) (.int .i64 0)) 0 w (by simpa using hc) (by simpa using hf) (by intro v hv'; rw [List.eq_of_mem_replicate hv']; rfl)
  simp only [Nat.add_zero] at hst
  obtain ⟨m, rfl⟩ : ∃ m, n = m + 1 := ⟨n - 1, by omega⟩
  have hv := zero23 w
  simp [Builtin.clear_, run_underlying Try.underlying28, hv, Value.cells, hzc, hst]

/-- Where the inner loop stands. -/
structure InC (w wr : World) (base g cap : Nat) (l : Pts) (k c m : Nat) (cur : Pts) : Prop where
  gr : w.grownBy wr (some g)
  len : cur.length = l.length
  own : OwnP wr base (.slice (some ⟨g, 0, none⟩) cur.length cap) cur
  pre : cur.take c = ddN l (k + m)
  cnt : c = (ddN l (k + m)).length
  tail : ∀ i, k + m ≤ i + 1 → cur[i]? = l[i]?
theorem InC.skip {w wr wx : World} {base g cap : Nat} {l : Pts} {k c m : Nat} {cur : Pts} (h : InC w wr base g cap l k c m cur) (hn : New wr wx) {p : Pt} (h0 : 0 < k + m) (h1 : l[k + m]? = some p) (h2 : l[k + m - 1]? = some p) : InC w wx base g cap l k c (m + 1) cur := by
  have e := ddN_same h1 h0 h2
  exact ⟨h.gr.trans (hn.but (some g)), h.len, h.own.new hn, by rw [← Nat.add_assoc, e]; exact h.pre, by rw [← Nat.add_assoc, e]; exact h.cnt, fun i hi => h.tail i (by omega)⟩
theorem InC.put {w wr wx : World} {base g cap : Nat} {l : Pts} {k c m : Nat} {cur : Pts} (h : InC w wr base g cap l k c m cur) (hn : New wr wx) {p : Pt} (h1 : l[k + m]? = some p) (h2 : l[k + m - 1]? ≠ some p) (hc : c + 1 ≤ k + m) :
    InC w ((wx.setCell ⟨g, c * 2, none⟩ (.int .i64 p.1)).setCell ⟨g, c * 2 + 1, none⟩ (.int .i64 p.2)) base g cap l k (c + 1) (m + 1) (cur.set c p) := by
  have hlt : k + m < l.length := (List.getElem?_eq_some_iff.1 h1).1
  have hcl : c < cur.length := by rw [h.len]; omega
  have s := (h.own.new hn).set hcl p
  have e := ddN_other h1 (fun _ => h2)
  refine ⟨(h.gr.trans (hn.but (some g))).trans s.2, by rw [List.length_set]; exact h.len, by rw [List.length_set]; exact s.1, ?_, ?_, fun i hi => ?_⟩
  · rw [← Nat.add_assoc, e, ← h.pre, List.take_add_one]
    simp [hcl, List.take_set_of_le]
  · rw [← Nat.add_assoc, e, List.length_append, ← h.cnt]; rfl
  · rw [List.getElem?_set_ne (by omega)]; exact h.tail i (by omega)

set_option maxHeartbeats 3200000 in
theorem compact_some (base g cap : Nat) (l : Pts) (w : World) (h : OwnP w base (.slice (some ⟨g, 0, none⟩) l.length cap) l) (hl : l.length ≤ 1000000) (hcap : l.length ≤ cap) :
    Calls Try.prog 102 #[.slice (some ⟨g, 0, none⟩) l.length cap] w fun e w' => e = .returned (.slice (some ⟨g, 0, none⟩) (ddN l l.length).length cap) ∧ Hid (w.grownBy w' (some g) ∧ OwnP w' base (.slice (some ⟨g, 0, none⟩) (ddN l l.length).length cap) (ddN l l.length)) := by
  have H : Hid (OwnP w base (.slice (some ⟨g, 0, none⟩) l.length cap) l) := h
  clear h
  go_enter Try.func102, Try.ntmps102
  by_cases h2 : l.length < 2
  · have HD : Hid (ddN l l.length = l) := ddN_short h2
    have h2' : (l.length : Int) < 2 := by omega
    go_wp2_with fail
    go_ret
    rw [HD.out]
    exact ⟨rfl, ⟨rfl, rfl, rfl, Nat.le_refl _, fun _ _ _ => rfl⟩, H.out⟩
  · go_wp2_with fail
    go_loopw [3] (fun v3 wr => ∃ k : Nat, v3 = .int .i64 (k : Int) ∧ 1 ≤ k ∧ k ≤ l.length ∧ Hid (New w wr ∧ ddN l k = l.take k)) (fun v3 _ => l.length - (intOf v3).toNat)
    case atStart => exact ⟨1, rfl, by omega, by omega, New.refl _, ddN_one (by omega)⟩
    case round =>
      obtain ⟨k, rfl, hk1, hk2, HR⟩ := hrel
      rcases Nat.lt_or_ge k l.length with hk | hk
      · have HO : Hid (OwnP wr base (.slice (some ⟨g, 0, none⟩) l.length cap) l) := H.out.new HR.out.1
        obtain ⟨j, hj⟩ : ∃ j, k = j + 1 := ⟨k - 1, by omega⟩
        obtain ⟨x0, x1⟩ := HO.out.cell (show j < l.length by omega)
        obtain ⟨y0, y1⟩ := HO.out.cell hk
        obtain ⟨p, hp⟩ : ∃ p, p = l[j]'(by omega) := ⟨_, rfl⟩
        obtain ⟨q, hq⟩ : ∃ q, q = l[k] := ⟨_, rfl⟩
        rw [← hp] at x0 x1
        rw [← hq] at y0 y1
        have HPQ : Hid (l[j]? = some p ∧ l[k]? = some q ∧ k = j + 1) := ⟨by rw [hp]; exact List.getElem?_eq_getElem _, by rw [hq]; exact List.getElem?_eq_getElem hk, hj⟩
        clear hp hq
        have hw : IntKind.i64.wrap ((k : Int) - 1) = (j : Int) := by rw [IntKind.wrap_i64]; omega
        have i0 : (0 : Int) ≤ (k : Int) := by omega
        have i1 : (k : Int) < (l.length : Int) := by omega
        have i2 : (0 : Int) ≤ (j : Int) := by omega
        have i3 : (j : Int) < (l.length : Int) := by omega
        clear hj
        go_wp2_with fail
        by_cases hpq : q = p
        · subst hpq
          go_region_held3 (fun W => W.cell? ⟨g, j * 2, none⟩ = some (.int .i64 q.1) ∧ W.cell? ⟨g, j * 2 + 1, none⟩ = some (.int .i64 q.2) ∧ W.cell? ⟨g, k * 2, none⟩ = some (.int .i64 q.1) ∧ W.cell? ⟨g, k * 2 + 1, none⟩ = some (.int .i64 q.2))
            (go_keep) (first | fail)
          clear x0 x1 y0 y1
          have HI : Hid (InC w wr.drew base g cap l k k 1 l) := by
            have e := ddN_same HPQ.out.2.1 (by omega) (show l[k - 1]? = some q by rw [HPQ.out.2.2, Nat.add_sub_cancel]; exact HPQ.out.1)
            exact ⟨(HR.out.1.dr).but (some g), rfl, HO.out.new (New.refl wr).dr, by rw [e]; exact HR.out.2.symm, by rw [e, HR.out.2, List.length_take]; omega, fun _ _ => rfl⟩
          clear HR HO HPQ hw i2 i3
          generalize wr = ws at *
          go_wp2_with fail
          go_loopw [3, 5] (fun v3 v5 wr => ∃ (c m : Nat) (cur : Pts), v3 = .int .i64 (c : Int) ∧ v5 = .int .i64 (m : Int) ∧ 1 ≤ m ∧ m ≤ l.length - k ∧ c + 1 ≤ k + m ∧ Hid (InC w wr base g cap l k c m cur)) (fun _ v5 _ => l.length - k - (intOf v5).toNat)
          case atStart => exact ⟨k, 1, l, rfl, rfl, by omega, by omega, by omega, HI⟩
          case round =>
            obtain ⟨c, m, cur, rfl, rfl, hm1, hm2, hc, HJ⟩ := hrel
            have i4 : (0 : Int) ≤ (c : Int) := by omega
            have i5 : (c : Int) < (l.length : Int) := by omega
            rcases Nat.lt_or_ge m (l.length - k) with hm | hm
            · obtain ⟨r, hr⟩ : ∃ r, m = r + 1 := ⟨m - 1, by omega⟩
              have hlen := HJ.out.len
              have t1 := HJ.out.tail (k + m) (by omega)
              have t2 := HJ.out.tail (k + r) (by omega)
              obtain ⟨y0, y1⟩ := HJ.out.own.cell (show k + m < cur.length by omega)
              obtain ⟨x0, x1⟩ := HJ.out.own.cell (show k + r < cur.length by omega)
              obtain ⟨p, hp⟩ : ∃ p, p = cur[k + r]'(by omega) := ⟨_, rfl⟩
              obtain ⟨q, hq⟩ : ∃ q, q = cur[k + m]'(by omega) := ⟨_, rfl⟩
              rw [← hp] at x0 x1
              rw [← hq] at y0 y1
              have HPQ : Hid (l[k + m - 1]? = some p ∧ l[k + m]? = some q ∧ 0 < k + m) := ⟨by rw [show k + m - 1 = k + r by omega, ← t2, hp]; exact List.getElem?_eq_getElem _, by rw [← t1, hq]; exact List.getElem?_eq_getElem _, by omega⟩
              rw [Nat.add_mul] at x0 x1 y0 y1
              have hw : IntKind.i64.wrap ((m : Int) - 1) = (r : Int) := by rw [IntKind.wrap_i64]; omega
              have hw1 : IntKind.i64.wrap ((m : Int) + 1) = (m : Int) + 1 := by rw [IntKind.wrap_i64]; omega
              have hw2 : IntKind.i64.wrap ((c : Int) + 1) = (c : Int) + 1 := by rw [IntKind.wrap_i64]; omega
              have j0 : (0 : Int) ≤ (m : Int) := by omega
              have j1 : (m : Int) < (l.length : Int) - (k : Int) := by omega
              have j2 : (0 : Int) ≤ (r : Int) := by omega
              have j3 : (r : Int) < (l.length : Int) - (k : Int) := by omega
              have j4 : (m : Int) < ((l.length - k : Nat) : Int) := by omega
              have j5 : (r : Int) < ((l.length - k : Nat) : Int) := by omega
              obtain ⟨s0, s1⟩ := HJ.out.own.cell (show c < cur.length by omega)
              obtain ⟨z, hz⟩ : ∃ z, z = cur[c]'(by omega) := ⟨_, rfl⟩
              rw [← hz] at s0 s1
              have f0 := World.ownsRow.frozenAt HJ.out.own (c * 2)
              have f1 := World.ownsRow.frozenAt HJ.out.own (c * 2 + 1)
              clear hp hq t1 t2 hr hz
              go_wp2_with fail
              by_cases hpq : q = p
              · subst hpq
                go_region_held3 (fun W => W.cell? ⟨g, k * 2 + r * 2, none⟩ = some (.int .i64 q.1) ∧ W.cell? ⟨g, k * 2 + r * 2 + 1, none⟩ = some (.int .i64 q.2) ∧ W.cell? ⟨g, k * 2 + m * 2, none⟩ = some (.int .i64 q.1) ∧ W.cell? ⟨g, k * 2 + m * 2 + 1, none⟩ = some (.int .i64 q.2))
                  (go_keep) (first | fail)
                have HN : Hid (InC w wr.drew base g cap l k c (m + 1) cur) := HJ.out.skip (New.refl wr).dr HPQ.out.2.2 HPQ.out.2.1 HPQ.out.1
                clear x0 x1 y0 y1 s0 s1 f0 f1
                go_wp2_with fail
                go_roundw
                case rel => exact ⟨c, m + 1, cur, rfl, by go_num, by omega, by omega, by omega, HN⟩
                case measure => simp [intOf]; omega
              · have HN : Hid (InC w ((wr.drew.setCell ⟨g, c * 2, none⟩ (.int .i64 q.1)).setCell ⟨g, c * 2 + 1, none⟩ (.int .i64 q.2)) base g cap l k (c + 1) (m + 1) (cur.set c q)) := HJ.out.put (New.refl wr).dr HPQ.out.2.1 (by rw [HPQ.out.1]; simp; exact fun c => hpq c.symm) hc
                have hne : ¬(q.1 = p.1 ∧ q.2 = p.2) := fun k => hpq (pt_ext k.1 k.2)
                by_cases h1 : q.1 = p.1
                · have h2 : ¬q.2 = p.2 := fun k => hne ⟨h1, k⟩
                  go_region_held3 (fun W => W.cell? ⟨g, k * 2 + r * 2, none⟩ = some (.int .i64 p.1) ∧ W.cell? ⟨g, k * 2 + r * 2 + 1, none⟩ = some (.int .i64 p.2) ∧ W.cell? ⟨g, k * 2 + m * 2, none⟩ = some (.int .i64 q.1) ∧ W.cell? ⟨g, k * 2 + m * 2 + 1, none⟩ = some (.int .i64 q.2))
                    (go_keep) (first | fail)
                  go_wp2_with fail
                  go_roundw
                  case rel => exact ⟨c + 1, m + 1, cur.set c q, by go_num, by go_num, by omega, by omega, by omega, by have t := HN.out; rw [h1] at t; exact t⟩
                  case measure => simp [intOf]; omega
                · go_region_held3 (fun W => W.cell? ⟨g, k * 2 + r * 2, none⟩ = some (.int .i64 p.1) ∧ W.cell? ⟨g, k * 2 + r * 2 + 1, none⟩ = some (.int .i64 p.2) ∧ W.cell? ⟨g, k * 2 + m * 2, none⟩ = some (.int .i64 q.1) ∧ W.cell? ⟨g, k * 2 + m * 2 + 1, none⟩ = some (.int .i64 q.2))
                    (go_keep) (first | fail)
                  go_wp2_with fail
                  go_roundw
                  case rel => exact ⟨c + 1, m + 1, cur.set c q, by go_num, by go_num, by omega, by omega, by omega, HN⟩
                  case measure => simp [intOf]; omega
            · have hme : m = l.length - k := by omega
              have hcn : c < l.length := by omega
              have hlen := HJ.out.len
              have HCL : Hid (∀ ty, (Builtin.clear_ #[28] ty #[.slice (some ⟨g, c * 2, none⟩) (l.length - c) (cap - c)]).run Try.prog wr = .ok (.tuple #[]) (wr.setCells g (c * 2) (List.replicate ((l.length - c) * 2) (.int .i64 0)))) := fun ty => by
                refine clear_pairs wr ty g (c * 2) (l.length - c) (cap - c) (by omega) (fun j hj => ?_) (fun j _ => World.ownsRow.frozenAt HJ.out.own _)
                rw [World.ownsRow.cellAt HJ.out.own (c * 2 + j) (by omega), List.getElem?_eq_getElem (by rw [flat_length lenP]; omega)]
                rfl
              have HF : Hid (w.grownBy (wr.setCells g (c * 2) (List.replicate ((l.length - c) * 2) (.int .i64 0))) (some g) ∧ OwnP (wr.setCells g (c * 2) (List.replicate ((l.length - c) * 2) (.int .i64 0))) base (.slice (some ⟨g, 0, none⟩) (ddN l l.length).length cap) (ddN l l.length) ∧ (ddN l l.length).length = c) := by
                have e : k + m = l.length := by omega
                have hp := HJ.out.pre
                have hcn := HJ.out.cnt
                rw [e] at hp hcn
                obtain ⟨ys, h1, h2, h3⟩ := own_behind (List.replicate ((l.length - c) * 2) (.int .i64 0)) (c * 2) HJ.out.own
                refine ⟨HJ.out.gr.trans h3, ?_, hcn.symm⟩
                have := own_shrink h1 (show c ≤ cur.length by omega)
                rw [h2] at this
                unfold OwnP
                rw [← hcn, ← hp]
                have e2 : (cur.flatMap encP).take (c * 2) = (cur.take c).flatMap encP := by
                  have e3 := congrArg (fun l => l.flatMap encP) (List.take_append_drop c cur)
                  simp only [List.flatMap_append] at e3
                  rw [← e3, List.take_append_of_le_length (by rw [flat_length lenP, List.length_take]; omega), List.take_of_length_le (by rw [flat_length lenP, List.length_take]; omega)]
                rw [← e2]
                exact this
              have hcl := HCL.out
              clear HCL HI hme
              go_wp2_with fail
              go_ret
              exact ⟨by rw [HF.out.2.2]; rfl, HF.out.1, HF.out.2.1⟩
        · have HN : Hid (ddN l (k + 1) = l.take (k + 1)) := by
            have e := HPQ.out.2.2
            have h1 := HPQ.out.2.1
            have h2 := HR.out.2
            rw [e] at h1 h2 ⊢
            exact ddN_take HPQ.out.1 h1 hpq h2
          have hw1 : IntKind.i64.wrap ((k : Int) + 1) = (k : Int) + 1 := by rw [IntKind.wrap_i64]; omega
          have hne : ¬(q.1 = p.1 ∧ q.2 = p.2) := fun k => hpq (pt_ext k.1 k.2)
          by_cases h1 : q.1 = p.1
          · have h2 : ¬q.2 = p.2 := fun k => hne ⟨h1, k⟩
            go_region_held3 (fun W => W.cell? ⟨g, j * 2, none⟩ = some (.int .i64 p.1) ∧ W.cell? ⟨g, j * 2 + 1, none⟩ = some (.int .i64 p.2) ∧ W.cell? ⟨g, k * 2, none⟩ = some (.int .i64 q.1) ∧ W.cell? ⟨g, k * 2 + 1, none⟩ = some (.int .i64 q.2))
              (go_keep) (first | fail)
            clear x0 x1 y0 y1
            go_wp2_with fail
            go_roundw
            case rel => exact ⟨k + 1, by go_num, by omega, by omega, HR.out.1.dr, HN.out⟩
            case measure => simp [intOf]; omega
          · go_region_held3 (fun W => W.cell? ⟨g, j * 2, none⟩ = some (.int .i64 p.1) ∧ W.cell? ⟨g, j * 2 + 1, none⟩ = some (.int .i64 p.2) ∧ W.cell? ⟨g, k * 2, none⟩ = some (.int .i64 q.1) ∧ W.cell? ⟨g, k * 2 + 1, none⟩ = some (.int .i64 q.2))
              (go_keep) (first | fail)
            clear x0 x1 y0 y1
            go_wp2_with fail
            go_roundw
            case rel => exact ⟨k + 1, by go_num, by omega, by omega, HR.out.1.dr, HN.out⟩
            case measure => simp [intOf]; omega
      · have hk3 : k = l.length := by omega
        subst hk3
        have HD : Hid (ddN l l.length = l) := by rw [Hid, HR.out.2, List.take_length]
        go_wp2_with fail
        go_ret
        rw [HD.out]
        exact ⟨rfl, HR.out.1.but (some g), H.out.new HR.out.1⟩

set_option maxHeartbeats 800000 in
theorem compact_nil (w : World) : Calls Try.prog 102 #[.slice none 0 0] w fun e w' => e = .returned (.slice none 0 0) ∧ Hid (New w w') := by
  go_enter Try.func102, Try.ntmps102
  go_wp2_with fail
  go_ret
  exact ⟨rfl, New.refl _⟩

end Go.Proofs.Ytgeoffpcmkofkaa
/- The walk of 'Distinct' of package order. -/
namespace Go.Proofs.Ytgeoffpcmkofkaa
open Go.RowKit Fl Go.Sort Go.Shelf Go.Lib
set_option maxRecDepth 100000
attribute [local go_sem ↓] Go.wp_at_zero Go.wp_at_succ

theorem sortP_none (p : Option Addr) (cap : Nat) (fv : Value) (w : World) : Calls Try.prog 101 #[.slice p 0 cap, fv] w fun e w' => e = .returned (.tuple #[]) ∧ w = w' := by
  have h := AnyF.slices_SortFunc_none Try.sortP p cap fv w
  change Calls Try.prog 101 _ _ _ at h
  exact h.mono fun _ _ hh => ⟨hh.1, hh.2.symm⟩
/-- Rising points. -/
def Rising (s : Pts) : Prop := ∀ (i j : Nat) (x y : Pt), s[i]? = some x → s[j]? = some y → i < j → K x < K y
/-- In their order, each once. -/
structure IsDis (l s : Pts) : Prop where
  rising : Rising s
  mem : ∀ x, x ∈ s ↔ x ∈ l
  len : s.length ≤ l.length

theorem rising_snoc {s : Pts} {p : Pt} (h : Rising s) (hp : ∀ x ∈ s, K x < K p) : Rising (s ++ [p]) := by
  intro i j x y hi hj hij
  rcases Nat.lt_or_ge j s.length with k | k
  · rw [List.getElem?_append_left (by omega)] at hi hj
    exact h i j x y hi hj hij
  · have hj' := (List.getElem?_eq_some_iff.1 hj).1
    simp at hj'
    have e : j = s.length := by omega
    subst e
    rw [List.getElem?_append_left (by omega)] at hi
    simp at hj
    subst hj
    exact hp x (List.mem_of_getElem? hi)

/-- What is left of a sorted list. -/
theorem ddN_dis {l : Pts} (hs : l.Pairwise fun x y => K x ≤ K y) (hi : ∀ x ∈ l, ∀ y ∈ l, K x = K y → x = y) : ∀ k, k ≤ l.length → Rising (ddN l k) ∧ (∀ x, x ∈ ddN l k ↔ x ∈ l.take k)
  | 0, _ => ⟨fun i j x y h => by simp [ddN] at h, fun x => by simp [ddN]⟩
  | k + 1, hk => by
    obtain ⟨h1, h2⟩ := ddN_dis hs hi k (by omega)
    have hp : l[k]? = some l[k] := List.getElem?_eq_getElem (by omega)
    have ht : l.take (k + 1) = l.take k ++ [l[k]] := by rw [List.take_add_one, hp]; rfl
    rcases Classical.em (0 < k ∧ l[k - 1]? = some l[k]) with c | c
    · rw [ddN_same hp c.1 c.2]
      refine ⟨h1, fun x => ?_⟩
      rw [h2, ht]
      simp only [List.mem_append, List.mem_singleton]
      constructor
      · exact .inl
      · rintro (h | rfl)
        · exact h
        · exact List.mem_of_getElem? (i := k - 1) (by rw [List.getElem?_take_of_lt (by omega)]; exact c.2)
    · rw [ddN_other hp (fun c0 c1 => c ⟨c0, c1⟩)]
      refine ⟨rising_snoc h1 fun x hx => ?_, fun x => ?_⟩
      · have hx' := (h2 x).1 hx
        obtain ⟨i, hi'⟩ := List.mem_iff_getElem?.1 hx'
        have hik : i < k := by
          have := (List.getElem?_eq_some_iff.1 hi').1
          simp at this; omega
        rw [List.getElem?_take_of_lt hik] at hi'
        have hil : i < l.length := by omega
        have hxe : x = l[i] := by rw [List.getElem?_eq_getElem hil] at hi'; injection hi' with e; exact e.symm
        have hle : K x ≤ K l[k] := by rw [hxe]; exact (List.pairwise_iff_getElem.1 hs) i k hil (by omega) hik
        rcases Int.lt_or_eq_of_le hle with q | q
        · exact q
        · exfalso
          apply c
          have hk1 : k - 1 < l.length := by omega
          refine ⟨by omega, ?_⟩
          rw [List.getElem?_eq_getElem hk1]
          congr 1
          apply hi _ (List.getElem_mem hk1) _ (List.getElem_mem (by omega))
          have a1 : K l[k - 1] ≤ K l[k] := (List.pairwise_iff_getElem.1 hs) (k - 1) k hk1 (by omega) (by omega)
          have a2 : K l[i] ≤ K l[k - 1] := by
            rcases Nat.lt_or_ge i (k - 1) with d | d
            · exact (List.pairwise_iff_getElem.1 hs) i (k - 1) hil hk1 d
            · have : i = k - 1 := by omega
              subst this; omega
          rw [hxe] at q
          omega
      · rw [ht]
        simp only [List.mem_append, List.mem_singleton, h2]
theorem dis_unique {s s' : Pts} (h : Rising s) (h' : Rising s') (hm : ∀ x, x ∈ s ↔ x ∈ s') : s = s' := by
  have key : ∀ (s s' : Pts), Rising s → Rising s' → (∀ x, x ∈ s ↔ x ∈ s') → s = s' := by
    intro s
    induction s with
    | nil =>
      intro s' _ _ hm
      cases s' with
      | nil => rfl
      | cons a l => have := (hm a).2 (by simp); simp at this
    | cons a l ih =>
      intro s' h h' hm
      cases s' with
      | nil => have := (hm a).1 (by simp); simp at this
      | cons b l' =>
        have tl : ∀ {c : Pt} {t : Pts}, Rising (c :: t) → Rising t := fun hh i j x y hi hj hij => hh (i + 1) (j + 1) x y (by simpa using hi) (by simpa using hj) (by omega)
        have lt : ∀ {c : Pt} {t : Pts}, Rising (c :: t) → ∀ x ∈ t, K c < K x := fun hh x hx => by
          obtain ⟨i, hi⟩ := List.mem_iff_getElem?.1 hx
          exact hh 0 (i + 1) _ x rfl (by simpa using hi) (by omega)
        have e : a = b := by
          have m1 := (hm a).1 (by simp)
          have m2 := (hm b).2 (by simp)
          rcases List.mem_cons.1 m1 with e | m1
          · exact e
          · rcases List.mem_cons.1 m2 with e | m2
            · exact e.symm
            · have := lt h b m2; have := lt h' a m1; omega
        subst e
        congr 1
        refine ih l' (tl h) (tl h') fun x => ?_
        have hx := hm x
        simp only [List.mem_cons] at hx
        constructor
        · intro hl
          rcases hx.1 (.inr hl) with e | k
          · have := lt h x hl; rw [e] at this; omega
          · exact k
        · intro hl
          rcases hx.2 (.inr hl) with e | k
          · have := lt h' x hl; rw [e] at this; omega
          · exact k
  exact key s s' h h' hm

theorem New.own {w w1 w2 : World} {g : Nat} (h : New w w1) (h2 : w1.grownBy w2 (some g)) (hg : w.heap.size ≤ g) : New w w2 :=
  ⟨h2.os.trans h.os, h2.tape.trans h.tape, h2.output.trans h.output, Nat.le_trans h.size h2.size, fun k hk _ => (h2.block k (Nat.lt_of_lt_of_le hk h.size) (by simp; omega)).trans (h.block k hk (by simp))⟩
theorem sorted_K {l : Pts} (hc : ∀ x ∈ l, CdP x) (h : l.Pairwise fun x y => ltOf cmpP y x = false) : l.Pairwise fun x y => K x ≤ K y := by
  rw [List.pairwise_iff_getElem] at *
  intro i j hi hj hij
  have := h i j hi hj hij
  rw [ltOf_not, cmpP_eq (hc _ (List.getElem_mem hj)) (hc _ (List.getElem_mem hi)), sgn_neg'] at this
  omega

set_option maxHeartbeats 800000 in
theorem distinct_some (g off cap : Nat) (l : Pts) (w : World) (hp : PtsAt w g off l) (hl : l.length ≤ 1000000) (hc : ∀ x ∈ l, CdP x) :
    Calls Try.prog 86 #[.slice (some ⟨g, off, none⟩) l.length cap] w fun e w' => ∃ v s, e = .returned v ∧ Hid (IsDis l s ∧ New w w' ∧ OwnP w' w.heap.size v s) := by
  have HC : Hid (∀ x ∈ l, CdP x) := hc
  go_enter Try.func86, Try.ntmps86
  go_wp2_with fail
  refine (clone_some g off cap l w hp hl).mono ?_
  rintro e w1 ⟨v1, rfl, hv, H1⟩
  rcases H1.out.2.form with ⟨e1, _⟩ | ⟨g1, c1, e1, hb1, hg1, hlc, hcm⟩
  · exact absurd e1 hv
  · subst e1
    have HB : Hid (w.heap.size ≤ g1 ∧ g1 < w1.heap.size ∧ l.length ≤ c1) := ⟨hb1, hg1, hlc⟩
    clear hv hb1 hg1 hlc hcm hp hc
    go_wp2_with fail
    refine (sortP_any w.heap.size g1 c1 l w1 H1.out.2 HB.out.2.1 (by omega)).mono ?_
    rintro e w2 ⟨rfl, H2⟩
    obtain ⟨s2, k1, k2, k3, k4⟩ := H2.out
    have hlen : s2.length = l.length := k1.length_eq
    have HS : Hid (s2.Perm l ∧ (s2.Pairwise fun x y => K x ≤ K y) ∧ OwnP w2 w.heap.size (.slice (some ⟨g1, 0, none⟩) s2.length c1) s2 ∧ New w w2) := ⟨k1, sorted_K (fun x hx => HC.out x (k1.mem_iff.1 hx)) k2, by unfold OwnP; rw [hlen]; exact k3, H1.out.1.own k4 HB.out.1⟩
    clear H2 k1 k2 k3 k4
    have hq := compact_some w.heap.size g1 c1 s2 w2 HS.out.2.2.1 (by omega) (by have := HB.out.2.2; omega)
    rw [hlen] at hq
    have HL : Hid (s2.length = l.length) := hlen
    have HQ : Hid (Calls Try.prog 102 #[.slice (some ⟨g1, 0, none⟩) l.length c1] w2 fun e w' => e = .returned (.slice (some ⟨g1, 0, none⟩) (ddN s2 l.length).length c1) ∧ Hid (w2.grownBy w' (some g1) ∧ OwnP w' w.heap.size (.slice (some ⟨g1, 0, none⟩) (ddN s2 l.length).length c1) (ddN s2 l.length))) := hq
    clear hlen hq
    go_wp2_with fail
    refine HQ.out.mono ?_
    rintro e w3 ⟨rfl, H3⟩
    go_wp2_with fail
    go_ret
    rw [← HL.out]
    rw [← HL.out] at H3
    refine ⟨_, _, rfl, ⟨?_, ?_, ?_⟩, HS.out.2.2.2.own H3.out.1 HB.out.1, H3.out.2⟩
    · exact (ddN_dis HS.out.2.1 (fun x hx y hy hk => K_inj (HC.out x (HS.out.1.mem_iff.1 hx)) (HC.out y (HS.out.1.mem_iff.1 hy)) hk) s2.length (Nat.le_refl _)).1
    · intro x
      rw [(ddN_dis HS.out.2.1 (fun x hx y hy hk => K_inj (HC.out x (HS.out.1.mem_iff.1 hx)) (HC.out y (HS.out.1.mem_iff.1 hy)) hk) s2.length (Nat.le_refl _)).2, List.take_length]
      exact HS.out.1.mem_iff
    · have := ddN_le s2 s2.length; have := HL.out; omega

set_option maxHeartbeats 800000 in
theorem distinct_nil (w : World) : Calls Try.prog 86 #[.slice none 0 0] w fun e w' => e = .returned (.slice none 0 0) ∧ Hid (New w w') := by
  go_enter Try.func86, Try.ntmps86
  go_wp2_with fail
  refine (clone_nil w).mono ?_
  rintro e w1 ⟨rfl, H1⟩
  go_wp2_with fail
  refine (sortP_none none 0 _ _).mono ?_
  rintro e w2 ⟨rfl, rfl⟩
  go_wp2_with fail
  refine (compact_nil _).mono ?_
  rintro e w2 ⟨rfl, H2⟩
  go_wp2_with fail
  go_ret
  exact ⟨rfl, H1.out.trans' H2.out⟩

end Go.Proofs.Ytgeoffpcmkofkaa
/- The way below some points that are gone through in their order: strictly left turns, and no point to the right of it. (Pure: any D and K with the laws of a plane.) -/
namespace Go.Proofs.Ytgeoffpcmkofkaa

/-- D tells on which side; K is the place in the order. -/
structure Pl {α : Type} (D : α → α → α → Int) (K : α → Int) : Prop where
  rot : ∀ a b c, D b c a = D a b c
  swp : ∀ a b c, D b a c = -D a b c
  pl : ∀ s t p x, D s p x * (K t - K s) = D s t x * (K p - K s) - D s t p * (K x - K s)
section
variable {α : Type} {D : α → α → α → Int} {K : α → Int}
theorem pos_of {a b : Int} (h : 0 ≤ a * b) (hb : 0 < b) : 0 ≤ a := by
  rcases Int.lt_or_le a 0 with ha | ha
  · have := Int.mul_neg_of_neg_of_pos ha hb
    omega
  · exact ha
theorem pos_of' {a b : Int} (h : 0 < a * b) (hb : 0 < b) : 0 < a := by
  rcases Int.lt_or_le 0 a with ha | ha
  · exact ha
  · have := Int.mul_nonpos_of_nonpos_of_nonneg ha (Int.le_of_lt hb)
    omega
theorem Pl.same (h : Pl D K) (a b : α) : D a b a = 0 := by
  have h1 := h.swp a a b
  have h2 := h.rot a a b
  have h3 := h.rot a b a
  omega
theorem Pl.same' (h : Pl D K) (a b : α) : D a b b = 0 := by
  have h1 := h.swp b b a
  have h2 := h.rot a b b
  omega
theorem Pl.pop1 (h : Pl D K) {s t p x : α} (k1 : K s < K x) (k2 : K s < K t) (k3 : K s < K p) (h1 : 0 ≤ D s t x) (h2 : D s t p ≤ 0) : 0 ≤ D s p x := by
  have e := h.pl s t p x
  refine pos_of (b := K t - K s) ?_ (by omega)
  rw [e]
  have a1 := Int.mul_nonneg h1 (show 0 ≤ K p - K s by omega)
  have a2 := Int.mul_nonpos_of_nonpos_of_nonneg h2 (show 0 ≤ K x - K s by omega)
  omega
theorem Pl.pop2 (h : Pl D K) {s t p x : α} (k1 : K s < K p) (k2 : K t < K p) (k3 : K x ≤ K p) (h1 : 0 ≤ D t p x) (h2 : D s t p ≤ 0) : 0 ≤ D s p x := by
  have e := h.pl p t s x
  have r1 := h.swp t p x
  have r2 := h.swp s p x
  have r3 := h.rot s t p
  have r4 := h.swp t p s
  have a1 := Int.mul_nonneg (show 0 ≤ D t p x from h1) (show 0 ≤ K p - K s by omega)
  have a2 := Int.mul_nonneg (show 0 ≤ D p t s by omega) (show 0 ≤ K p - K x by omega)
  have e1 : D p t x * (K s - K p) = D t p x * (K p - K s) := by rw [r1]; grind
  have e2 : D p t s * (K x - K p) = -(D p t s * (K p - K x)) := by grind
  have e3 : D p s x * (K t - K p) = D s p x * (K p - K t) := by rw [r2]; grind
  refine pos_of (b := K p - K t) ?_ (by omega)
  omega
theorem Pl.behind (h : Pl D K) {u t p x : α} (k1 : K x ≤ K t) (k2 : K u < K t) (k3 : K t < K p) (h1 : 0 ≤ D u t x) (h2 : 0 < D u t p) : 0 ≤ D t p x := by
  have e := h.pl t u p x
  have r1 := h.swp u t x
  have r2 := h.swp u t p
  have a1 := Int.mul_nonneg h1 (show 0 ≤ K p - K t by omega)
  have a2 := Int.mul_nonneg (Int.le_of_lt h2) (show 0 ≤ K t - K x by omega)
  have e1 : D t u x * (K p - K t) = -(D u t x * (K p - K t)) := by rw [r1]; grind
  have e2 : D t u p * (K x - K t) = D u t p * (K t - K x) := by rw [r2]; grind
  have e3 : D t p x * (K u - K t) = -(D t p x * (K t - K u)) := by grind
  refine pos_of (b := K t - K u) ?_ (by omega)
  omega
theorem Pl.left (h : Pl D K) {a b c p : α} (k1 : K a < K b) (k2 : K b < K c) (k3 : K b < K p) (h1 : 0 < D a b c) (h2 : 0 ≤ D b c p) : 0 < D a b p := by
  have e := h.pl b a c p
  have r1 := h.swp a b p
  have r2 := h.swp a b c
  have a1 := Int.mul_pos h1 (show 0 < K p - K b by omega)
  have a2 := Int.mul_nonneg h2 (show 0 ≤ K b - K a by omega)
  have e1 : D b a p * (K c - K b) = -(D a b p * (K c - K b)) := by rw [r1]; grind
  have e2 : D b a c * (K p - K b) = -(D a b c * (K p - K b)) := by rw [r2]; grind
  have e3 : D b c p * (K a - K b) = -(D b c p * (K b - K a)) := by grind
  refine pos_of' (b := K c - K b) ?_ (by omega)
  omega

/-- The last points of the way that do not turn left towards p are left out. (The way's last point is the list's first.) -/
def pops (D : α → α → α → Int) (p : α) : List α → List α
  | t :: s :: l => if D s t p ≤ 0 then pops D p (s :: l) else t :: s :: l
  | l => l
def wayOf (D : α → α → α → Int) (xs : List α) : List α := xs.foldl (fun way p => p :: pops D p way) []
/-- Each three turn left. -/
def Turns (D : α → α → α → Int) : List α → Prop
  | c :: b :: a :: l => 0 < D a b c ∧ Turns D (b :: a :: l)
  | _ => True
/-- x is not to the right of any side. -/
def LeftOf (D : α → α → α → Int) (x : α) : List α → Prop
  | v :: u :: l => 0 ≤ D u v x ∧ LeftOf D x (u :: l)
  | _ => True
/-- Falling in the order. -/
def Falls (K : α → Int) : List α → Prop
  | v :: u :: l => K u < K v ∧ Falls K (u :: l)
  | _ => True
theorem Turns.tail : ∀ {c : α} {l : List α}, Turns D (c :: l) → Turns D l
  | _, [], _ => trivial
  | _, [_], _ => trivial
  | _, _ :: _ :: _, h => h.2
theorem LeftOf.tail {x : α} : ∀ {c : α} {l : List α}, LeftOf D x (c :: l) → LeftOf D x l
  | _, [], _ => trivial
  | _, _ :: _, h => h.2
theorem Falls.tail : ∀ {c : α} {l : List α}, Falls K (c :: l) → Falls K l
  | _, [], _ => trivial
  | _, _ :: _, h => h.2
/-- What is left of the way once p has come. -/
structure Popped (D : α → α → α → Int) (K : α → Int) (Seen : α → Prop) (p : α) (way : List α) : Prop where
  turns : Turns D way
  falls : Falls K way
  left : ∀ x, Seen x → LeftOf D x way
  part : ∀ x ∈ way, Seen x
  some : way ≠ []
  over : ∀ t l, way = t :: l → ∀ x, Seen x → K t < K x → 0 ≤ D t p x
  low : ∀ m ∈ way.getLast?, ∀ x, Seen x → K m ≤ K x ∧ (K x = K m → x = m)
theorem pops_ok (h : Pl D K) {Seen : α → Prop} {p : α} (hp : ∀ x, Seen x → K x < K p) : ∀ {way : List α}, Popped D K Seen p way → Popped D K Seen p (pops D p way) ∧ ∀ t u l, pops D p way = t :: u :: l → 0 < D u t p
  | [], hw => absurd rfl hw.some
  | [t], hw => ⟨by simpa only [pops] using hw, fun t' u l e => by simp [pops] at e⟩
  | t :: s :: l, hw => by
    unfold pops
    split
    · rename_i hd
      refine pops_ok h hp ⟨hw.turns.tail, hw.falls.tail, fun x hx => (hw.left x hx).tail, fun x hx => hw.part x (List.mem_cons_of_mem _ hx), by simp, ?_, ?_⟩
      · intro t' l' e x hx hk
        injection e with e1 e2
        subst e1
        have f1 : K s < K t := hw.falls.1
        have kt := hp t (hw.part t (by simp))
        have ks := hp s (hw.part s (by simp))
        have kx := hp x hx
        rcases Int.lt_or_le (K t) (K x) with hx' | hx'
        · exact h.pop2 ks kt (by omega) (hw.over t _ rfl x hx hx') hd
        · exact h.pop1 hk f1 ks (hw.left x hx).1 hd
      · have := hw.low
        simpa using this
    · rename_i hd
      refine ⟨hw, fun t' u l' e => ?_⟩
      injection e with e1 e2
      injection e2 with e2 e3
      subst e1 e2
      omega
/-- The way below what was seen. -/
structure WayOK (D : α → α → α → Int) (K : α → Int) (Seen : α → Prop) (way : List α) : Prop where
  turns : Turns D way
  falls : Falls K way
  left : ∀ x, Seen x → LeftOf D x way
  part : ∀ x ∈ way, Seen x
  some : way ≠ []
  top : ∀ t l, way = t :: l → ∀ x, Seen x → K x ≤ K t
  low : ∀ m ∈ way.getLast?, ∀ x, Seen x → K m ≤ K x ∧ (K x = K m → x = m)
theorem left_all (h : Pl D K) {p : α} : ∀ {t u : α} {l : List α}, Turns D (t :: u :: l) → Falls K (t :: u :: l) → K t < K p → 0 < D u t p → LeftOf D p (t :: u :: l)
  | t, u, [], _, _, _, hd => ⟨Int.le_of_lt hd, trivial⟩
  | t, u, v :: l, ht, hf, hk, hd => by
    have k1 : K u < K t := hf.1
    have k2 : K v < K u := hf.2.1
    exact ⟨Int.le_of_lt hd, left_all h ht.2 hf.2 (by omega) (h.left k2 k1 (by omega) ht.1 (Int.le_of_lt hd))⟩
theorem push_ok (h : Pl D K) {Seen : α → Prop} {p : α} (hp : ∀ x, Seen x → K x < K p) {way : List α} (hw : WayOK D K Seen way) : WayOK D K (fun x => Seen x ∨ x = p) (p :: pops D p way) := by
  have hpop : Popped D K Seen p way := ⟨hw.turns, hw.falls, hw.left, hw.part, hw.some, fun t l e x hx hk => by have := hw.top t l e x hx; omega, hw.low⟩
  obtain ⟨hq, hd⟩ := pops_ok h hp hpop
  generalize pops D p way = w at hq hd
  cases w with
  | nil => exact absurd rfl hq.some
  | cons t l =>
    have kt := hp t (hq.part t (by simp))
    have hlp : LeftOf D p (t :: l) := by
      cases l with
      | nil => trivial
      | cons u l => exact left_all h hq.turns hq.falls kt (hd t u l rfl)
    refine ⟨?_, ⟨kt, hq.falls⟩, fun x hx => ⟨?_, ?_⟩, fun x hx => ?_, by simp, fun t' l' e x hx => ?_, fun m hm x hx => ?_⟩
    · cases l with
      | nil => trivial
      | cons u l => exact ⟨hd t u l rfl, hq.turns⟩
    · rcases hx with hx | rfl
      · rcases Int.lt_or_le (K t) (K x) with hk | hk
        · exact hq.over t l rfl x hx hk
        · cases l with
          | nil =>
            have := hq.low t (by simp) x hx
            rw [this.2 (by omega), h.same]
            exact Int.le_refl _
          | cons u l =>
            have f1 : K u < K t := hq.falls.1
            exact h.behind hk f1 kt (hq.left x hx).1 (hd t u l rfl)
      · rw [h.same']
        exact Int.le_refl _
    · rcases hx with hx | rfl
      · exact hq.left x hx
      · exact hlp
    · rcases List.mem_cons.1 hx with rfl | hx
      · exact .inr rfl
      · exact .inl (hq.part x hx)
    · injection e with e1 e2
      subst e1
      rcases hx with hx | rfl
      · exact Int.le_of_lt (hp x hx)
      · exact Int.le_refl _
    · have hm' : m ∈ (t :: l).getLast? := by simpa using hm
      have hmem : m ∈ t :: l := List.mem_of_getLast? hm'
      have km := hp m (hq.part m hmem)
      rcases hx with hx | rfl
      · exact hq.low m hm' x hx
      · exact ⟨Int.le_of_lt km, fun e => by omega⟩
/-- All points in their order. -/
theorem way_ok (h : Pl D K) : ∀ (xs : List α) {Seen : α → Prop} {way : List α}, WayOK D K Seen way → (∀ x ∈ xs, ∀ y, Seen y → K y < K x) → xs.Pairwise (fun a b => K a < K b) → WayOK D K (fun x => Seen x ∨ x ∈ xs) (xs.foldl (fun way p => p :: pops D p way) way)
  | [], Seen, way, hw, _, _ => by
    have e : (fun x => Seen x ∨ x ∈ ([] : List α)) = Seen := by funext x; simp
    rw [e]
    exact hw
  | p :: xs, Seen, way, hw, hs, ho => by
    rw [List.foldl_cons]
    have hp := push_ok h (fun y hy => hs p (by simp) y hy) hw
    rw [List.pairwise_cons] at ho
    have := way_ok h xs hp (fun x hx y hy => by
      rcases hy with hy | rfl
      · exact hs x (by simp [hx]) y hy
      · exact ho.1 x hx) ho.2
    have e : (fun x => (Seen x ∨ x = p) ∨ x ∈ xs) = fun x => Seen x ∨ x ∈ p :: xs := by funext x; simp [or_assoc]
    rw [e] at this
    exact this
theorem wayOf_ok (h : Pl D K) {p : α} {xs : List α} (ho : (p :: xs).Pairwise (fun a b => K a < K b)) : WayOK D K (fun x => x ∈ p :: xs) (wayOf D (p :: xs)) := by
  rw [List.pairwise_cons] at ho
  have h0 : WayOK D K (fun x => x = p) [p] := ⟨trivial, trivial, fun _ _ => trivial, fun x hx => by simpa using hx, by simp, fun t l e x hx => by injection e with e1 e2; rw [hx, e1]; exact Int.le_refl _, fun m hm x hx => by
    have : p = m := by simpa using hm
    rw [hx, this]
    exact ⟨Int.le_refl _, fun _ => rfl⟩⟩
  have := way_ok h xs h0 (fun x hx y hy => by rw [hy]; exact ho.1 x hx) ho.2
  have e : (fun x => x = p ∨ x ∈ xs) = fun x => x ∈ p :: xs := by funext x; simp
  rw [e] at this
  exact this
end
end Go.Proofs.Ytgeoffpcmkofkaa
