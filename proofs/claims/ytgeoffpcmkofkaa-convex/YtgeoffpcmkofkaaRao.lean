/- Qd; Qf; Qg: texts laid into one. -/
import Derived.Test.YtgeoffpcmkofkaaRan
import Derived.Shelf.SlSortCmp.NoneTotal
import Derived.Shelf.SlicesQ.Reverse
/- The walk of 'Distinct' of package order. -/
namespace Go.Proofs.Ytgeoffpcmkofkaa
open Go.RowKit Fl Go.Sort Go.Shelf Go.Lib
set_option maxRecDepth 100000
attribute [local go_sem ↓] Go.wp_at_zero Go.wp_at_succ

theorem sortP_none (p : Option Addr) (cap : Nat) (fv : Value) (w : World) : Calls Try.prog 101 #[.slice p 0 cap, fv] w fun e w' => e = .returned (.tuple #[]) ∧ w = w' := by
  have h := AnyF.slices_SortFunc_none Try.sortP p cap fv w
  change Calls Try.prog 101 _ _ _ at h
  exact h.mono fun _ _ hh => ⟨hh.1, hh.2.symm⟩
/-- Rising points. -/
def Rising (s : Pts) : Prop := ∀ (i j : Nat) (x y : Pt), s[i]? = some x → s[j]? = some y → i < j → K x < K y
/-- In their order, each once. -/
structure IsDis (l s : Pts) : Prop where
  rising : Rising s
  mem : ∀ x, x ∈ s ↔ x ∈ l
  len : s.length ≤ l.length

theorem rising_snoc {s : Pts} {p : Pt} (h : Rising s) (hp : ∀ x ∈ s, K x < K p) : Rising (s ++ [p]) := by
  intro i j x y hi hj hij
  rcases Nat.lt_or_ge j s.length with k | k
  · rw [List.getElem?_append_left (by omega)] at hi hj
    exact h i j x y hi hj hij
  · have hj' := (List.getElem?_eq_some_iff.1 hj).1
    simp at hj'
    have e : j = s.length := by omega
    subst e
    rw [List.getElem?_append_left (by omega)] at hi
    simp at hj
    subst hj
    exact hp x (List.mem_of_getElem? hi)

/-- What is left of a sorted list. -/
theorem ddN_dis {l : Pts} (hs : l.Pairwise fun x y => K x ≤ K y) (hi : ∀ x ∈ l, ∀ y ∈ l, K x = K y → x = y) : ∀ k, k ≤ l.length → Rising (ddN l k) ∧ (∀ x, x ∈ ddN l k ↔ x ∈ l.take k)
  | 0, _ => ⟨fun i j x y h => by simp [ddN] at h, fun x => by simp [ddN]⟩
  | k + 1, hk => by
    obtain ⟨h1, h2⟩ := ddN_dis hs hi k (by omega)
    have hp : l[k]? = some l[k] := List.getElem?_eq_getElem (by omega)
    have ht : l.take (k + 1) = l.take k ++ [l[k]] := by rw [List.take_add_one, hp]; rfl
    rcases Classical.em (0 < k ∧ l[k - 1]? = some l[k]) with c | c
    · rw [ddN_same hp c.1 c.2]
      refine ⟨h1, fun x => ?_⟩
      rw [h2, ht]
      simp only [List.mem_append, List.mem_singleton]
      constructor
      · exact .inl
      · rintro (h | rfl)
        · exact h
        · exact List.mem_of_getElem? (i := k - 1) (by rw [List.getElem?_take_of_lt (by omega)]; exact c.2)
    · rw [ddN_other hp (fun c0 c1 => c ⟨c0, c1⟩)]
      refine ⟨rising_snoc h1 fun x hx => ?_, fun x => ?_⟩
      · have hx' := (h2 x).1 hx
        obtain ⟨i, hi'⟩ := List.mem_iff_getElem?.1 hx'
        have hik : i < k := by
          have := (List.getElem?_eq_some_iff.1 hi').1
          simp at this; omega
        rw [List.getElem?_take_of_lt hik] at hi'
        have hil : i < l.length := by omega
        have hxe : x = l[i] := by rw [List.getElem?_eq_getElem hil] at hi'; injection hi' with e; exact e.symm
        have hle : K x ≤ K l[k] := by rw [hxe]; exact (List.pairwise_iff_getElem.1 hs) i k hil (by omega) hik
        rcases Int.lt_or_eq_of_le hle with q | q
        · exact q
        · exfalso
          apply c
          have hk1 : k - 1 < l.length := by omega
          refine ⟨by omega, ?_⟩
          rw [List.getElem?_eq_getElem hk1]
          congr 1
          apply hi _ (List.getElem_mem hk1) _ (List.getElem_mem (by omega))
          have a1 : K l[k - 1] ≤ K l[k] := (List.pairwise_iff_getElem.1 hs) (k - 1) k hk1 (by omega) (by omega)
          have a2 : K l[i] ≤ K l[k - 1] := by
            rcases Nat.lt_or_ge i (k - 1) with d | d
            · exact (List.pairwise_iff_getElem.1 hs) i (k - 1) hil hk1 d
            · have : i = k - 1 := by omega
              subst this; omega
          rw [hxe] at q
          omega
      · rw [ht]
        simp only [List.mem_append, List.mem_singleton, h2]
theorem dis_unique {s s' : Pts} (h : Rising s) (h' : Rising s') (hm : ∀ x, x ∈ s ↔ x ∈ s') : s = s' := by
  have key : ∀ (s s' : Pts), Rising s → Rising s' → (∀ x, x ∈ s ↔ x ∈ s') → s = s' := by
    intro s
    induction s with
    | nil =>
      intro s' _ _ hm
      cases s' with
      | nil => rfl
      | cons a l => have := (hm a).2 (by simp); simp at this
    | cons a l ih =>
      intro s' h h' hm
      cases s' with
      | nil => have := (hm a).1 (by simp); simp at this
      | cons b l' =>
        have tl : ∀ {c : Pt} {t : Pts}, Rising (c :: t) → Rising t := fun hh i j x y hi hj hij => hh (i + 1) (j + 1) x y (by simpa using hi) (by simpa using hj) (by omega)
        have lt : ∀ {c : Pt} {t : Pts}, Rising (c :: t) → ∀ x ∈ t, K c < K x := fun hh x hx => by
          obtain ⟨i, hi⟩ := List.mem_iff_getElem?.1 hx
          exact hh 0 (i + 1) _ x rfl (by simpa using hi) (by omega)
        have e : a = b := by
          have m1 := (hm a).1 (by simp)
          have m2 := (hm b).2 (by simp)
          rcases List.mem_cons.1 m1 with e | m1
          · exact e
          · rcases List.mem_cons.1 m2 with e | m2
            · exact e.symm
            · have := lt h b m2; have := lt h' a m1; omega
        subst e
        congr 1
        refine ih l' (tl h) (tl h') fun x => ?_
        have hx := hm x
        simp only [List.mem_cons] at hx
        constructor
        · intro hl
          rcases hx.1 (.inr hl) with e | k
          · have := lt h x hl; rw [e] at this; omega
          · exact k
        · intro hl
          rcases hx.2 (.inr hl) with e | k
          · have := lt h' x hl; rw [e] at this; omega
          · exact k
  exact key s s' h h' hm

theorem New.own {w w1 w2 : World} {g : Nat} (h : New w w1) (h2 : w1.grownBy w2 (some g)) (hg : w.heap.size ≤ g) : New w w2 :=
  ⟨h2.os.trans h.os, h2.tape.trans h.tape, h2.output.trans h.output, Nat.le_trans h.size h2.size, fun k hk _ => (h2.block k (Nat.lt_of_lt_of_le hk h.size) (by simp; omega)).trans (h.block k hk (by simp))⟩
theorem sorted_K {l : Pts} (hc : ∀ x ∈ l, CdP x) (h : l.Pairwise fun x y => ltOf cmpP y x = false) : l.Pairwise fun x y => K x ≤ K y := by
  rw [List.pairwise_iff_getElem] at *
  intro i j hi hj hij
  have := h i j hi hj hij
  rw [ltOf_not, cmpP_eq (hc _ (List.getElem_mem hj)) (hc _ (List.getElem_mem hi)), sgn_neg'] at this
  omega

set_option maxHeartbeats 800000 in
theorem distinct_some (g off cap : Nat) (l : Pts) (w : World) (hp : PtsAt w g off l) (hl : l.length ≤ 1000000) (hc : ∀ x ∈ l, CdP x) :
    Calls Try.prog 86 #[.slice (some ⟨g, off, none⟩) l.length cap] w fun e w' => ∃ v s, e = .returned v ∧ Hid (IsDis l s ∧ New w w' ∧ OwnP w' w.heap.size v s) := by
  have HC : Hid (∀ x ∈ l, CdP x) := hc
  go_enter Try.func86, Try.ntmps86
  go_wp2_with fail
  refine (clone_some g off cap l w hp hl).mono ?_
  rintro e w1 ⟨v1, rfl, hv, H1⟩
  rcases H1.out.2.form with ⟨e1, _⟩ | ⟨g1, c1, e1, hb1, hg1, hlc, hcm⟩
  · exact absurd e1 hv
  · subst e1
    have HB : Hid (w.heap.size ≤ g1 ∧ g1 < w1.heap.size ∧ l.length ≤ c1) := ⟨hb1, hg1, hlc⟩
    clear hv hb1 hg1 hlc hcm hp hc
    go_wp2_with fail
    refine (sortP_any w.heap.size g1 c1 l w1 H1.out.2 HB.out.2.1 (by omega)).mono ?_
    rintro e w2 ⟨rfl, H2⟩
    obtain ⟨s2, k1, k2, k3, k4⟩ := H2.out
    have hlen : s2.length = l.length := k1.length_eq
    have HS : Hid (s2.Perm l ∧ (s2.Pairwise fun x y => K x ≤ K y) ∧ OwnP w2 w.heap.size (.slice (some ⟨g1, 0, none⟩) s2.length c1) s2 ∧ New w w2) := ⟨k1, sorted_K (fun x hx => HC.out x (k1.mem_iff.1 hx)) k2, by unfold OwnP; rw [hlen]; exact k3, H1.out.1.own k4 HB.out.1⟩
    clear H2 k1 k2 k3 k4
    have hq := compact_some w.heap.size g1 c1 s2 w2 HS.out.2.2.1 (by omega) (by have := HB.out.2.2; omega)
    rw [hlen] at hq
    have HL : Hid (s2.length = l.length) := hlen
    have HQ : Hid (Calls Try.prog 102 #[.slice (some ⟨g1, 0, none⟩) l.length c1] w2 fun e w' => e = .returned (.slice (some ⟨g1, 0, none⟩) (ddN s2 l.length).length c1) ∧ Hid (w2.grownBy w' (some g1) ∧ OwnP w' w.heap.size (.slice (some ⟨g1, 0, none⟩) (ddN s2 l.length).length c1) (ddN s2 l.length))) := hq
    clear hlen hq
    go_wp2_with fail
    refine HQ.out.mono ?_
    rintro e w3 ⟨rfl, H3⟩
    go_wp2_with fail
    go_ret
    rw [← HL.out]
    rw [← HL.out] at H3
    refine ⟨_, _, rfl, ⟨?_, ?_, ?_⟩, HS.out.2.2.2.own H3.out.1 HB.out.1, H3.out.2⟩
    · exact (ddN_dis HS.out.2.1 (fun x hx y hy hk => K_inj (HC.out x (HS.out.1.mem_iff.1 hx)) (HC.out y (HS.out.1.mem_iff.1 hy)) hk) s2.length (Nat.le_refl _)).1
    · intro x
      rw [(ddN_dis HS.out.2.1 (fun x hx y hy hk => K_inj (HC.out x (HS.out.1.mem_iff.1 hx)) (HC.out y (HS.out.1.mem_iff.1 hy)) hk) s2.length (Nat.le_refl _)).2, List.take_length]
      exact HS.out.1.mem_iff
    · have := ddN_le s2 s2.length; have := HL.out; omega

set_option maxHeartbeats 800000 in
theorem distinct_nil (w : World) : Calls Try.prog 86 #[.slice none 0 0] w fun e w' => e = .returned (.slice none 0 0) ∧ Hid (New w w') := by
  go_enter Try.func86, Try.ntmps86
  go_wp2_with fail
  refine (clone_nil w).mono ?_
  rintro e w1 ⟨rfl, H1⟩
  go_wp2_with fail
  refine (sortP_none none 0 _ _).mono ?_
  rintro e w2 ⟨rfl, rfl⟩
  go_wp2_with fail
  refine (compact_nil _).mono ?_
  rintro e w2 ⟨rfl, H2⟩
  go_wp2_with fail
  go_ret
  exact ⟨rfl, H1.out.trans' H2.out⟩

end Go.Proofs.Ytgeoffpcmkofkaa
/- 'Reverse' of package slices, at points. -/
namespace Go.Proofs.Ytgeoffpcmkofkaa
open Go.RowKit Fl Go.Sort Go.Shelf Go.Lib
set_option maxRecDepth 100000

def Try.revP_ren : Go.Shelf.Ren := ⟨fun | 35 => 88 | n => n, fun | 22 => 28 | 23 => 23 | n => n, fun | n => n⟩
theorem Try.revP : Go.Proofs.SlLaysE0.n35 Try.prog Try.revP_ren := {
  mixed := by kernel_rfl
  f35 := ⟨Try.f88.name, by decide, Try.func88.trans (congrArg some (by kernel_rfl))⟩
  t0 := Try.underlying0
  a0 := Try.isAgg0
  z0 := Try.sizeOf0
  v0 := Try.zeroValue0
  t3 := Try.underlying3
  a3 := Try.isAgg3
  z3 := Try.sizeOf3
  v3 := Try.zeroValue3
  t4 := Try.underlying4
  a4 := Try.isAgg4
  z4 := Try.sizeOf4
  v4 := Try.zeroValue4
  t22 := Try.underlying28
  a22 := Try.isAgg28
  z22 := Try.sizeOf28
  v22 := Try.zeroValue28 }
theorem reverse_any (base g cap : Nat) (l : Pts) (w : World) (h : OwnP w base (.slice (some ⟨g, 0, none⟩) l.length cap) l) (hl : l.length ≤ 1000000) :
    Calls Try.prog 88 #[.slice (some ⟨g, 0, none⟩) l.length cap] w fun e w' => e = .returned (.tuple #[]) ∧ Hid (w.grownBy w' (some g) ∧ OwnP w' base (.slice (some ⟨g, 0, none⟩) l.length cap) l.reverse) := by
  have hc := AnyQ.slices_Reverse Try.revP 2 Try.isAgg23 Try.sizeOf23 encP lenP (fun x v hv => by simp [encP] at hv; rcases hv with rfl | rfl <;> rfl) g 0 cap l.toArray w (holdsK_row lenP h rfl) (by simpa using (show l.length ≤ 9223372036854775807 by omega))
  change Calls Try.prog 88 _ _ _ at hc
  refine hc.mono fun e w' hh => ?_
  obtain ⟨he, n, rfl⟩ := hh
  have hr := sorted_row lenP (m := n) (os := #[]) (l' := l.reverse) h rfl (by simp)
  have e : sortWorldK encP 2 w g 0 n l.reverse.toArray #[] = putRowK encP 2 (Sort.ahead w n) g 0 l.toArray.reverse := by
    simp [sortWorldK, grow]
  rw [e] at hr
  exact ⟨he, hr.2, by unfold OwnP; rw [List.length_reverse]; exact hr.1⟩
end Go.Proofs.Ytgeoffpcmkofkaa
/- 'Grow' and 'Concat' of package slices, at points. -/
namespace Go.Proofs.Ytgeoffpcmkofkaa
open Go.RowKit Fl Go.Lib
set_option maxRecDepth 100000
attribute [local go_sem ↓] Go.wp_at_zero Go.wp_at_succ

set_option maxHeartbeats 800000 in
theorem grow_nil (n : Nat) (w : World) (h0 : 0 < n) (hn : n ≤ 1000000) :
    Calls Try.prog 103 #[.slice none 0 0, .int .i64 (n : Int)] w fun e w' => ∃ v, e = .returned v ∧ Hid (New w w' ∧ OwnP w' w.heap.size v []) := by
  obtain ⟨i0, hi0, hz0, hz1, hz2⟩ := info_parts Try.info23
  have k1 := run_append_nil_zeros (P := Try.prog) w 28 3 28 23 i0 _ .i64 .i64 Try.underlying28 Try.underlying3 hi0 hz0 n h0 (by rw [hz1]; omega) (by omega) (by rw [hz2]; omega)
  have HG : Hid (n ≤ grownCap w n 0 23 ∧ grownCap w n 0 23 ≤ maxLen) := ⟨grownCap_ge _ _ _ _, grownCap_le_maxLen _ _ _ _ (by unfold maxLen; omega)⟩
  have HO : Hid (∀ cap cur, cap = grownCap w n 0 23 → cur = Builtin.zeroCells (Value.cells (.agg #[.int .i64 0, .int .i64 0])) n ++ Builtin.zeroCells (Value.cells (.agg #[.int .i64 0, .int .i64 0])) (grownCap w n 0 23 - n) → (w.drew.alloc (.cells cur 23)).ownsRow w.heap.size 23 2 (.slice (some ⟨w.heap.size, 0, none⟩) 0 cap) 0 []) := fun cap cur hc hcur => by
    subst hc
    have h2 := HG.out
    exact World.ownsRow_made w.drew cur _ (Nat.le_refl _) h2.2 (by rw [hcur]; simp [Builtin.zeroCells, Value.cells]; omega)
  obtain ⟨cp, wk, k2, hcp, HK⟩ : ∃ cp wk, (Builtin.append_ #[28, 3] 28 #[.slice none 0 0, .int .i64 (n : Int)]).run Try.prog w = .ok (.slice (some ⟨w.heap.size, 0, none⟩) n cp) wk ∧ n ≤ cp ∧ Hid (New w wk ∧ OwnP wk w.heap.size (.slice (some ⟨w.heap.size, 0, none⟩) 0 cp) []) :=
    ⟨_, _, k1, HG.out.1, ((New.refl w).dr).alloc' _, HO.out _ _ rfl rfl⟩
  clear k1 HG HO hi0 hz0 hz1 hz2
  have hw1 : IntKind.i64.wrap (n : Int) = (n : Int) := by rw [IntKind.wrap_i64]; omega
  have hn0 : ¬((n : Int) < 0) := by omega
  have hn1 : (0 : Int) < (n : Int) := by omega
  go_enter Try.func103, Try.ntmps103
  go_wp2_with (first | (at_builtin; refine Go.Lib.wpList_append_run _ rfl _ _ 28 3 rfl _ _ rfl rfl _ wk k2 ?_) | go_in)
  go_ret
  exact ⟨_, rfl, HK.out⟩

theorem concat_step {w wr : World} {v : Value} {g c : Nat} {xs ys : Pts} (hn : New w wr) (ho : OwnP wr w.heap.size v xs) (hp : PtsAt wr g 0 ys) (hl : xs.length + ys.length ≤ 1000000) :
    ∃ vk wk, (Builtin.append_ #[28, 28] 28 #[v, .slice (some ⟨g, 0, none⟩) ys.length c]).run Try.prog wr = .ok vk wk ∧ Hid (New w wk ∧ OwnP wk w.heap.size vk (xs ++ ys)) := by
  obtain ⟨i0, hi0, hz0, hz1, hz2⟩ := info_parts Try.info23
  obtain ⟨vk, wk, k1, k2, k3, k4⟩ := run_append_own (P := Try.prog) wr w.heap.size 28 28 23 i0 _ 2 16 Try.underlying28 hi0 hz0 hz1 hz2 rfl (by omega) v xs.length (xs.flatMap encP) ho ⟨g, 0, none⟩ ys.length c (ys.flatMap encP) (flat_length lenP ys)
    (fun j u hu => by rw [← flatP_eq] at hu; exact pts_cells hp j u hu) (encP_one ys) (by unfold maxLen; omega) (by omega) (by have := hn.size; omega)
  refine ⟨vk, wk, k1, hn.trans k3 fun g hg => ?_, ?_⟩
  · rcases Nat.lt_or_ge g w.heap.size with h1 | h1
    · exact absurd hg.symm (own_ne ho h1)
    · exact h1
  · unfold OwnP
    rw [List.flatMap_append, List.length_append]
    exact k2

set_option maxHeartbeats 1600000 in
theorem concat_two (gs g1 c1 g2 c2 : Nat) (l1 l2 : Pts) (w : World) (q1 : w.cell? ⟨gs, 0, none⟩ = some (.slice (some ⟨g1, 0, none⟩) l1.length c1)) (q2 : w.cell? ⟨gs, 1, none⟩ = some (.slice (some ⟨g2, 0, none⟩) l2.length c2))
    (hp1 : PtsAt w g1 0 l1) (hp2 : PtsAt w g2 0 l2) (b1 : g1 < w.heap.size) (b2 : g2 < w.heap.size) (h0 : 0 < l1.length + l2.length) (hl : l1.length + l2.length ≤ 1000000) :
    Calls Try.prog 89 #[.slice (some ⟨gs, 0, none⟩) 2 2] w fun e w' => ∃ v, e = .returned v ∧ Hid (New w w' ∧ OwnP w' w.heap.size v (l1 ++ l2)) := by
  have HP : Hid (PtsAt w g1 0 l1 ∧ PtsAt w g2 0 l2 ∧ g1 < w.heap.size ∧ g2 < w.heap.size) := ⟨hp1, hp2, b1, b2⟩
  clear hp1 hp2 b1 b2
  have HQ : Hid (∀ V, New w V → V.cell? ⟨gs, 0, none⟩ = some (.slice (some ⟨g1, 0, none⟩) l1.length c1) ∧ V.cell? ⟨gs, 1, none⟩ = some (.slice (some ⟨g2, 0, none⟩) l2.length c2)) := fun V h => ⟨h.kept' q1, h.kept' q2⟩
  obtain ⟨n1, e1⟩ : ∃ n, n = l1.length := ⟨_, rfl⟩
  obtain ⟨n2, e2⟩ : ∃ n, n = l2.length := ⟨_, rfl⟩
  rw [← e1, ← e2] at h0 hl
  have HE : Hid (n1 = l1.length ∧ n2 = l2.length) := ⟨e1, e2⟩
  rw [← e1] at q1 HQ
  rw [← e2] at q2 HQ
  clear e1 e2
  have wr1 : IntKind.i64.wrap (n1 : Int) = (n1 : Int) := by rw [IntKind.wrap_i64]; omega
  have wr2 : IntKind.i64.wrap ((n1 : Int) + (n2 : Int)) = (n1 : Int) + (n2 : Int) := by rw [IntKind.wrap_i64]; omega
  have n10 : ¬((n1 : Int) < 0) := by omega
  have n20 : ¬((n1 : Int) + (n2 : Int) < 0) := by omega
  go_enter Try.func89, Try.ntmps89
  go_wp2_with fail
  go_loop [3, 11] (fun s i => (i = .int .i64 0 ∧ s = .int .i64 0) ∨ (i = .int .i64 1 ∧ s = .int .i64 (n1 : Int)) ∨ (i = .int .i64 2 ∧ s = .int .i64 ((n1 : Int) + (n2 : Int)))) (fun _ i => 2 - (intOf i).toNat)
  case atStart => exact .inl ⟨rfl, rfl⟩
  case round =>
    rcases hrel with ⟨rfl, rfl⟩ | ⟨rfl, rfl⟩ | ⟨rfl, rfl⟩
    · go_wp2_with fail
      go_round
      case rel => exact .inr (.inl ⟨rfl, rfl⟩)
      case measure => simp [intOf]
    · go_wp2_with fail
      go_round
      case rel => exact .inr (.inr ⟨rfl, rfl⟩)
      case measure => simp [intOf]
    · go_wp2_with fail
      have hg := grow_nil (n1 + n2) w h0 hl
      rw [Int.natCast_add] at hg
      refine hg.mono ?_
      rintro e w1 ⟨v1, rfl, H1⟩
      clear hg
      go_wp2_with fail
      clear q1 q2
      go_loopw [6, 27] (fun v i wr => (i = .int .i64 0 ∧ Hid (New w wr ∧ OwnP wr w.heap.size v [])) ∨ (i = .int .i64 1 ∧ Hid (New w wr ∧ OwnP wr w.heap.size v l1)) ∨ (i = .int .i64 2 ∧ Hid (New w wr ∧ OwnP wr w.heap.size v (l1 ++ l2)))) (fun _ i _ => 2 - (intOf i).toNat)
      case atStart => exact .inl ⟨rfl, H1⟩
      case round =>
        rcases hrel with ⟨rfl, H⟩ | ⟨rfl, H⟩ | ⟨rfl, H⟩
        · obtain ⟨q1, q2⟩ := HQ.out wr H.out.1
          obtain ⟨vk, wk, k1, R⟩ := concat_step (c := c1) H.out.1 H.out.2 (HP.out.1.kept HP.out.2.2.1 H.out.1) (by have := HE.out; simp; omega)
          rw [← HE.out.1] at k1
          go_wp2_with (first | (at_builtin; refine Go.Lib.wpList_append_run _ rfl _ _ 28 28 rfl _ _ rfl rfl vk wk k1 ?_) | go_in)
          go_roundw
          case rel => exact .inr (.inl ⟨rfl, R⟩)
          case measure => simp [intOf]
        · obtain ⟨q1, q2⟩ := HQ.out wr H.out.1
          obtain ⟨vk, wk, k1, R⟩ := concat_step (c := c2) H.out.1 H.out.2 (HP.out.2.1.kept HP.out.2.2.2 H.out.1) (by have := HE.out; omega)
          rw [← HE.out.2] at k1
          go_wp2_with (first | (at_builtin; refine Go.Lib.wpList_append_run _ rfl _ _ 28 28 rfl _ _ rfl rfl vk wk k1 ?_) | go_in)
          go_roundw
          case rel => exact .inr (.inr ⟨rfl, R⟩)
          case measure => simp [intOf]
        · go_wp2_with fail
          go_ret
          exact ⟨_, rfl, H.out⟩
end Go.Proofs.Ytgeoffpcmkofkaa
