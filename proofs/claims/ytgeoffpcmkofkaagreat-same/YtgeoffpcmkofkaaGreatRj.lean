/- 'Keys' of package maps, 'SortedFunc' of package slices: a map's sides in their order. -/
import Derived.Test.YtgeoffpcmkofkaaGreatRi
namespace Go.Proofs.YtgeoffpcmkofkaaGreat
open Go.RowKit Go.Maps Fl
set_option maxRecDepth 100000
attribute [local go_sem ↓] Go.wp_at_zero Go.wp_at_succ

/-- A mesh's sides, each once, in their order. -/
structure Sorted (m : Ms) (L : List Ed) : Prop where
  nd : L.Nodup
  iff : ∀ e, e ∈ L ↔ (m e).isSome = true
  pw : L.Pairwise (fun x y => ltOf cmpE y x = false)

theorem cmpE_zero (e f : Ed) (h1 : ¬cmpE e f < 0) (h2 : ¬cmpE f e < 0) : e = f := by
  rw [cmpE_neg, cmpP_neg, cmpP_neg] at h1 h2
  obtain ⟨⟨a, b⟩, c, d⟩ := e
  obtain ⟨⟨a', b'⟩, c', d'⟩ := f
  simp only [Prod.mk.injEq] at h1 h2 ⊢
  omega

/-- There is one such list. -/
theorem sorted_unique : ∀ {L L' : List Ed}, L.Nodup → L'.Nodup → (∀ e, e ∈ L ↔ e ∈ L') → L.Pairwise (fun x y => ltOf cmpE y x = false) → L'.Pairwise (fun x y => ltOf cmpE y x = false) → L = L'
  | [], L', _, _, hm, _, _ => by
    cases L' with
    | nil => rfl
    | cons a l => exact absurd ((hm a).2 (by simp)) (by simp)
  | a :: l, [], _, _, hm, _, _ => absurd ((hm a).1 (by simp)) (by simp)
  | a :: l, b :: l', h1, h2, hm, p1, p2 => by
    rw [List.nodup_cons] at h1 h2
    rw [List.pairwise_cons] at p1 p2
    have e : a = b := by
      rcases List.mem_cons.1 ((hm a).1 (by simp)) with e | m1
      · exact e
      · rcases List.mem_cons.1 ((hm b).2 (by simp)) with e | m2
        · exact e.symm
        · exact cmpE_zero a b ((ltOf_not _ _ _).1 (p2.1 a m1)) ((ltOf_not _ _ _).1 (p1.1 b m2))
    subst e
    congr 1
    refine sorted_unique h1.2 h2.2 (fun x => ?_) p1.2 p2.2
    have hx := hm x
    simp only [List.mem_cons] at hx
    constructor
    · intro hl
      rcases hx.1 (.inr hl) with e | k
      · exact absurd (e ▸ hl) h1.1
      · exact k
    · intro hl
      rcases hx.2 (.inr hl) with e | k
      · exact absurd (e ▸ hl) h2.1
      · exact k

/-- The pairs of points in their order stand in theirs. -/
theorem pairs_sorted {s : Pts} (h : Rising s) (hc : ∀ x ∈ s, CdP x) : (pairs s).Pairwise (fun x y => ltOf cmpE y x = false) := by
  have lt1 : s.Pairwise fun x y => cmpP x y < 0 := by
    rw [List.pairwise_iff_getElem]
    intro i j hi hj hij
    rw [cmpP_eq (hc _ (List.getElem_mem hi)) (hc _ (List.getElem_mem hj)), sgn_neg']
    have := h i j _ _ (List.getElem?_eq_getElem hi) (List.getElem?_eq_getElem hj) hij
    omega
  have key : ∀ t : Pts, t.Pairwise (fun x y => cmpP x y < 0) → (t.flatMap fun u => s.map fun v => (u, v)).Pairwise (fun x y => ltOf cmpE y x = false) := by
    intro t
    induction t with
    | nil => simp
    | cons a t ih =>
      intro ht
      rw [List.pairwise_cons] at ht
      rw [List.flatMap_cons, List.pairwise_append]
      refine ⟨?_, ih ht.2, fun x hx y hy => ?_⟩
      · rw [List.pairwise_map]
        refine lt1.imp fun {x y} hxy => ?_
        rw [ltOf_not, cmpE_neg]
        rw [cmpP_neg] at hxy
        simp only [cmpP_neg]
        omega
      · obtain ⟨v, _, rfl⟩ := List.mem_map.1 hx
        obtain ⟨b, hb, hy⟩ := List.mem_flatMap.1 hy
        obtain ⟨v', _, rfl⟩ := List.mem_map.1 hy
        have hab := ht.1 b hb
        rw [ltOf_not, cmpE_neg]
        rw [cmpP_neg] at hab
        simp only [cmpP_neg, pt_eq_iff]
        omega
  exact key s lt1

theorem keysL_sorted {s : Pts} {m : Ms} (h : Rising s) (hc : ∀ x ∈ s, CdP x) (hm : ∀ e, (m e).isSome = true → e ∈ pairs s) : Sorted m (keysL s m) := by
  refine ⟨(nodup_pairs h.nodup).filter _, fun e => ?_, (pairs_sorted h hc).filter _⟩
  unfold keysL
  rw [List.mem_filter]
  exact ⟨fun k => k.2, fun k => ⟨hm e k, k⟩⟩
theorem Sorted.keysL {s : Pts} {m : Ms} {L : List Ed} (hL : Sorted m L) (h : Rising s) (hc : ∀ x ∈ s, CdP x) (hm : ∀ e, (m e).isSome = true → e ∈ pairs s) : L = keysL s m := by
  have k := keysL_sorted h hc hm
  exact sorted_unique hL.nd k.nd (fun e => by rw [hL.iff, k.iff]) hL.pw k.pw

theorem keys_any (b : Nat) (w : World) : Calls Tryz.prog 45 #[.map (some b)] w fun e w' => e = .returned (.func (.func 70) #[] #[.pointer (some ⟨w.heap.size, 0, none⟩)]) ∧ w' = w.alloc (.cells #[.map (some b)] 51) := by
  go_enter Tryz.func45, Tryz.ntmps45
  go_wp2_with fail
  go_ret
  exact ⟨rfl, rfl⟩

set_option maxHeartbeats 1600000 in
theorem sortedFunc_any (Bm b n : Nat) (m : Ms) (PS : List Ed) (hPS : ∀ e, (m e).isSome = true → e ∈ PS) (hlen : PS.length ≤ 1000000) (w : World) (hBm : Bm < w.heap.size) (hm : w.cell? ⟨Bm, 0, none⟩ = some (.map (some b))) (hown : MapE w b n m) :
    Calls Tryz.prog 44 #[.func (.func 70) #[] #[.pointer (some ⟨Bm, 0, none⟩)], .func (.func 46) #[] #[]] w fun e w' => ∃ v L, e = .returned v ∧ Hid (Sorted m L ∧ New w w' ∧ OwnE w' w.heap.size v L) := by
  have e70 : ∀ args w, (callFunc 70 args).run Tryz.prog w = .ok (.enter 70 args) w := enters_of Tryz.func70 (by kernel_rfl) rfl
  have HC : Hid (Calls Tryz.prog 68 #[.func (.func 70) #[] #[.pointer (some ⟨Bm, 0, none⟩)]] w fun e w' => ∃ (v : Value) (ss : List Ed), e = .returned v ∧ (ss.Nodup ∧ ∀ e, e ∈ ss ↔ (m e).isSome = true) ∧ OwnE w' w.heap.size v ss ∧ Below w.heap.size w w') :=
    callsIn_wide.1 (collect_in 10 (by omega) 70 _ e70 _ PS.length hlen w (keys_gives 8 (by omega) Bm b n m PS hPS w hBm hm hown))
  have HP : Hid (∀ e, (m e).isSome = true → e ∈ PS) := hPS
  clear hm hown hPS e70
  go_enter Tryz.func44, Tryz.ntmps44
  go_wp2_with fail
  refine HC.out.mono ?_
  rintro e w1 ⟨v1, ss, rfl, h1, h2, h3⟩
  have H1 : Hid (ss.Nodup ∧ (∀ e, e ∈ ss ↔ (m e).isSome = true) ∧ OwnE w1 w.heap.size v1 ss ∧ New w w1 ∧ ss.length ≤ PS.length) := ⟨h1.1, h1.2, h2, Below.new' h3, length_le_of_sub h1.1 (fun e he => HP.out e ((h1.2 e).1 he))⟩
  clear h1 h2 h3 HC
  rcases H1.out.2.2.1.form with ⟨e1, e2⟩ | ⟨g, cap, e1, hb, hg, hlc, hcm⟩
  · subst e1 e2
    go_wp2_with fail
    refine (sortE_none none 0 _ _).mono ?_
    rintro e w2 ⟨rfl, rfl⟩
    go_wp2_with fail
    go_ret
    exact ⟨_, [], rfl, ⟨H1.out.1, H1.out.2.1, .nil⟩, H1.out.2.2.2.1, H1.out.2.2.1⟩
  · subst e1
    have HG : Hid (w.heap.size ≤ g ∧ g < w1.heap.size) := ⟨hb, hg⟩
    clear hb hg hlc hcm
    go_wp2_with fail
    refine (sortE_any w.heap.size g cap ss w1 H1.out.2.2.1 HG.out.2 (by have := H1.out.2.2.2.2; omega)).mono ?_
    rintro e w2 ⟨rfl, H2⟩
    go_wp2_with fail
    go_ret
    obtain ⟨L, k1, k2, k3, k4⟩ := H2.out
    refine ⟨_, L, rfl, ⟨(k1.nodup_iff).2 H1.out.1, fun e => by rw [k1.mem_iff]; exact H1.out.2.1 e, k2⟩, H1.out.2.2.2.1.own k4 HG.out.1, ?_⟩
    unfold OwnE
    rw [k1.length_eq]
    exact k3

end Go.Proofs.YtgeoffpcmkofkaaGreat
