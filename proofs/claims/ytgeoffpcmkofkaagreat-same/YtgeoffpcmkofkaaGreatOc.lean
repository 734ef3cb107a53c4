/- What the library's sort makes of points, of directed sides and of triangles. -/
import Derived.Test.YtgeoffpcmkofkaaGreatOb
import Derived.Test.YtgeoffpcmkofkaaGreatNd
namespace Go.Proofs.YtgeoffpcmkofkaaGreat
open Go.RowKit Fl Go.Sort Go.Shelf Go.Lib
set_option maxRecDepth 100000

def encP (p : Pt) : List Value := [.int .i64 p.1, .int .i64 p.2]
def encT (t : Tri3) : List Value := [.int .i64 t.1, .int .i64 t.2.1, .int .i64 t.2.2]

theorem orI_neg (s t : Int) : orI s t < 0 ↔ s < 0 ∨ s = 0 ∧ t < 0 := by
  unfold orI; split <;> omega
theorem orI_zero (s t : Int) : orI s t = 0 ↔ s = 0 ∧ t = 0 := by
  unfold orI; split <;> omega
theorem cmpP_neg (a b : Pt) : cmpP a b < 0 ↔ a.1 < b.1 ∨ a.1 = b.1 ∧ a.2 < b.2 := by
  unfold cmpP
  rw [orI_neg, sgn_neg', sgn_zero, sgn_neg']
  omega
theorem cmpP_zero (a b : Pt) : cmpP a b = 0 ↔ a = b := by
  unfold cmpP
  rw [orI_zero, sgn_zero, sgn_zero]
  constructor
  · rintro ⟨h1, h2⟩; exact pt_ext (by omega) (by omega)
  · rintro rfl; omega
theorem cmpE_neg (e f : Ed) : cmpE e f < 0 ↔ cmpP e.1 f.1 < 0 ∨ e.1 = f.1 ∧ cmpP e.2 f.2 < 0 := by
  unfold cmpE
  rw [orI_neg, cmpP_zero]
theorem cmpT_neg (s t : Tri3) : cmpT s t < 0 ↔ s.1 < t.1 ∨ s.1 = t.1 ∧ (s.2.1 < t.2.1 ∨ s.2.1 = t.2.1 ∧ s.2.2 < t.2.2) := by
  unfold cmpT
  rw [orI_neg, orI_neg, sgn_neg', sgn_zero, sgn_neg', sgn_zero, sgn_neg']
  omega
theorem ltOf_iff {α : Type} (cf : α → α → Int) (x y : α) : ltOf cf x y = true ↔ cf x y < 0 := by simp [ltOf]
theorem ltOf_not {α : Type} (cf : α → α → Int) (x y : α) : ltOf cf x y = false ↔ ¬cf x y < 0 := by simp [ltOf]

theorem swoP : SWO (ltOf cmpP) where
  irrefl x := by rw [ltOf_not, cmpP_neg]; omega
  trans x y z h1 h2 := by rw [ltOf_iff, cmpP_neg] at *; omega
  ntrans x y z h1 h2 := by rw [ltOf_not, cmpP_neg] at *; omega
theorem pt_eq_iff (p q : Pt) : p = q ↔ p.1 = q.1 ∧ p.2 = q.2 := ⟨fun h => by rw [h]; exact ⟨rfl, rfl⟩, fun h => pt_ext h.1 h.2⟩
theorem swoE : SWO (ltOf cmpE) where
  irrefl x := by rw [ltOf_not, cmpE_neg, cmpP_neg, cmpP_neg]; omega
  trans x y z h1 h2 := by rw [ltOf_iff, cmpE_neg, cmpP_neg, cmpP_neg, pt_eq_iff] at *; omega
  ntrans x y z h1 h2 := by rw [ltOf_not, cmpE_neg, cmpP_neg, cmpP_neg, pt_eq_iff] at *; omega
theorem swoT : SWO (ltOf cmpT) where
  irrefl x := by rw [ltOf_not, cmpT_neg]; omega
  trans x y z h1 h2 := by rw [ltOf_iff, cmpT_neg] at *; omega
  ntrans x y z h1 h2 := by rw [ltOf_not, cmpT_neg] at *; omega

theorem laysP (blk off size : Nat) (w : World) : CmpLays Tryz.prog 42 #[] encP 2 cmpP blk off size w :=
  fun _ _ _ _ x y => (compare_gr x.1 x.2 y.1 y.2 _).mono fun _ _ h => ⟨h.1, h.2.out⟩
theorem laysE (blk off size : Nat) (w : World) : CmpLays Tryz.prog 46 #[] encE 4 cmpE blk off size w :=
  fun _ _ _ _ x y => (compareEdges_gr x y _).mono fun _ _ h => ⟨h.1, h.2.out⟩
theorem laysT (blk off size : Nat) (w : World) : CmpLays Tryz.prog 50 #[] encT 3 cmpT blk off size w :=
  fun _ _ _ _ x y => (compareTriangles_gr x y _).mono fun _ _ h => ⟨h.1, h.2.out⟩

theorem lenP (x : Pt) : (encP x).length = 2 := rfl
theorem lenE (x : Ed) : (encE x).length = 4 := rfl
theorem lenT (x : Tri3) : (encT x).length = 3 := rfl

theorem sortP_any (base g cap : Nat) (l : List Pt) (w : World) (h : w.ownsRow base 36 2 (.slice (some ⟨g, 0, none⟩) l.length cap) l.length (l.flatMap encP)) (hg : g < w.heap.size) (hl : l.length < 4611686018427387904) :
    Calls Tryz.prog 41 #[.slice (some ⟨g, 0, none⟩) l.length cap, .func (.func 42) #[] #[]] w fun e w' => e = .returned (.tuple #[]) ∧
      Hid (∃ l' : List Pt, l'.Perm l ∧ l'.Pairwise (fun x y => ltOf cmpP y x = false) ∧ w'.ownsRow base 36 2 (.slice (some ⟨g, 0, none⟩) l.length cap) l.length (l'.flatMap encP) ∧ w.grownBy w' (some g)) := by
  have eg : ∀ args w, (callFunc 42 args).run Tryz.prog w = .ok (.enter 42 args) w := enters_of Tryz.func42 (by kernel_rfl) rfl
  have hc := AnyQ.slices_SortFunc Tryz.sortP 2 Tryz.isAgg36 Tryz.sizeOf36 encP lenP (fun x v hv => by simp [encP] at hv; rcases hv with rfl | rfl <;> rfl) cmpP swoP 42 #[] g 0 cap l.toArray w eg (laysP _ _ _ _) (holdsK_row lenP h rfl) hg (by simpa using hl)
  change Calls Tryz.prog 41 _ _ _ at hc
  refine hc.mono fun e w' hh => ?_
  obtain ⟨he, d', m, os, hp, hs, rfl⟩ := hh
  have hp' := permIn_list hp
  have hs' := sortedIn_list (n := l.length) (by simpa using hp.1) hs
  have hr := sorted_row lenP (m := m) (os := os) (l' := d'.toList) h rfl hp'.2
  refine ⟨he, d'.toList, hp'.1, hs', ?_⟩
  simpa using hr
theorem sortE_any (base g cap : Nat) (l : List Ed) (w : World) (h : w.ownsRow base 65 4 (.slice (some ⟨g, 0, none⟩) l.length cap) l.length (l.flatMap encE)) (hg : g < w.heap.size) (hl : l.length < 4611686018427387904) :
    Calls Tryz.prog 69 #[.slice (some ⟨g, 0, none⟩) l.length cap, .func (.func 46) #[] #[]] w fun e w' => e = .returned (.tuple #[]) ∧
      Hid (∃ l' : List Ed, l'.Perm l ∧ l'.Pairwise (fun x y => ltOf cmpE y x = false) ∧ w'.ownsRow base 65 4 (.slice (some ⟨g, 0, none⟩) l.length cap) l.length (l'.flatMap encE) ∧ w.grownBy w' (some g)) := by
  have eg : ∀ args w, (callFunc 46 args).run Tryz.prog w = .ok (.enter 46 args) w := enters_of Tryz.func46 (by kernel_rfl) rfl
  have hc := AnyQ.slices_SortFunc Tryz.sortE 4 Tryz.isAgg65 Tryz.sizeOf65 encE lenE (fun x v hv => by simp [encE] at hv; rcases hv with rfl | rfl | rfl | rfl <;> rfl) cmpE swoE 46 #[] g 0 cap l.toArray w eg (laysE _ _ _ _) (holdsK_row lenE h rfl) hg (by simpa using hl)
  change Calls Tryz.prog 69 _ _ _ at hc
  refine hc.mono fun e w' hh => ?_
  obtain ⟨he, d', m, os, hp, hs, rfl⟩ := hh
  have hp' := permIn_list hp
  have hs' := sortedIn_list (n := l.length) (by simpa using hp.1) hs
  have hr := sorted_row lenE (m := m) (os := os) (l' := d'.toList) h rfl hp'.2
  refine ⟨he, d'.toList, hp'.1, hs', ?_⟩
  simpa using hr
theorem sortT_any (base g cap : Nat) (l : List Tri3) (w : World) (h : w.ownsRow base 33 3 (.slice (some ⟨g, 0, none⟩) l.length cap) l.length (l.flatMap encT)) (hg : g < w.heap.size) (hl : l.length < 4611686018427387904) :
    Calls Tryz.prog 49 #[.slice (some ⟨g, 0, none⟩) l.length cap, .func (.func 50) #[] #[]] w fun e w' => e = .returned (.tuple #[]) ∧
      Hid (∃ l' : List Tri3, l'.Perm l ∧ l'.Pairwise (fun x y => ltOf cmpT y x = false) ∧ w'.ownsRow base 33 3 (.slice (some ⟨g, 0, none⟩) l.length cap) l.length (l'.flatMap encT) ∧ w.grownBy w' (some g)) := by
  have eg : ∀ args w, (callFunc 50 args).run Tryz.prog w = .ok (.enter 50 args) w := enters_of Tryz.func50 (by kernel_rfl) rfl
  have hc := AnyQ.slices_SortFunc Tryz.sortT 3 Tryz.isAgg33 Tryz.sizeOf33 encT lenT (fun x v hv => by simp [encT] at hv; rcases hv with rfl | rfl | rfl <;> rfl) cmpT swoT 50 #[] g 0 cap l.toArray w eg (laysT _ _ _ _) (holdsK_row lenT h rfl) hg (by simpa using hl)
  change Calls Tryz.prog 49 _ _ _ at hc
  refine hc.mono fun e w' hh => ?_
  obtain ⟨he, d', m, os, hp, hs, rfl⟩ := hh
  have hp' := permIn_list hp
  have hs' := sortedIn_list (n := l.length) (by simpa using hp.1) hs
  have hr := sorted_row lenT (m := m) (os := os) (l' := d'.toList) h rfl hp'.2
  refine ⟨he, d'.toList, hp'.1, hs', ?_⟩
  simpa using hr

end Go.Proofs.YtgeoffpcmkofkaaGreat
