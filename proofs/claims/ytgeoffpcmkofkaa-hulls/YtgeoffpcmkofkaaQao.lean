/- Qd; Qf; Qg; Na; Nb; Nc; Nd; Ne: texts laid into one. -/
import Derived.Test.YtgeoffpcmkofkaaQan
import Derived.Shelf.SlSortCmp.NoneTotal
import Derived.Shelf.SlicesQ.Reverse
import Derived.Test.YtgeoffpcmkofkaaQai
import Derived.Test.YtgeoffpcmkofkaaQaj
/- The walk of 'Distinct' of package order. -/
namespace Go.Proofs.Ytgeoffpcmkofkaa
open Go.RowKit Fl Go.Sort Go.Shelf Go.Lib
set_option maxRecDepth 100000
attribute [local go_sem ↓] Go.wp_at_zero Go.wp_at_succ

theorem sortP_none (p : Option Addr) (cap : Nat) (fv : Value) (w : World) : Calls Try.prog 101 #[.slice p 0 cap, fv] w fun e w' => e = .returned (.tuple #[]) ∧ w = w' := by
  have h := AnyF.slices_SortFunc_none Try.sortP p cap fv w
  change Calls Try.prog 101 _ _ _ at h
  exact h.mono fun _ _ hh => ⟨hh.1, hh.2.symm⟩
/-- Rising points. -/
def Rising (s : Pts) : Prop := ∀ (i j : Nat) (x y : Pt), s[i]? = some x → s[j]? = some y → i < j → K x < K y
/-- In their order, each once. -/
structure IsDis (l s : Pts) : Prop where
  rising : Rising s
  mem : ∀ x, x ∈ s ↔ x ∈ l
  len : s.length ≤ l.length

theorem rising_snoc {s : Pts} {p : Pt} (h : Rising s) (hp : ∀ x ∈ s, K x < K p) : Rising (s ++ [p]) := by
  intro i j x y hi hj hij
  rcases Nat.lt_or_ge j s.length with k | k
  · rw [List.getElem?_append_left (by omega)] at hi hj
    exact h i j x y hi hj hij
  · have hj' := (List.getElem?_eq_some_iff.1 hj).1
    simp at hj'
    have e : j = s.length := by omega
    subst e
    rw [List.getElem?_append_left (by omega)] at hi
    simp at hj
    subst hj
    exact hp x (List.mem_of_getElem? hi)

/-- What is left of a sorted list. -/
theorem ddN_dis {l : Pts} (hs : l.Pairwise fun x y => K x ≤ K y) (hi : ∀ x ∈ l, ∀ y ∈ l, K x = K y → x = y) : ∀ k, k ≤ l.length → Rising (ddN l k) ∧ (∀ x, x ∈ ddN l k ↔ x ∈ l.take k)
  | 0, _ => ⟨fun i j x y h => by simp [ddN] at h, fun x => by simp [ddN]⟩
  | k + 1, hk => by
    obtain ⟨h1, h2⟩ := ddN_dis hs hi k (by omega)
    have hp : l[k]? = some l[k] := List.getElem?_eq_getElem (by omega)
    have ht : l.take (k + 1) = l.take k ++ [l[k]] := by rw [List.take_add_one, hp]; rfl
    rcases Classical.em (0 < k ∧ l[k - 1]? = some l[k]) with c | c
    · rw [ddN_same hp c.1 c.2]
      refine ⟨h1, fun x => ?_⟩
      rw [h2, ht]
      simp only [List.mem_append, List.mem_singleton]
      constructor
      · exact .inl
      · rintro (h | rfl)
        · exact h
        · exact List.mem_of_getElem? (i := k - 1) (by rw [List.getElem?_take_of_lt (by omega)]; exact c.2)
    · rw [ddN_other hp (fun c0 c1 => c ⟨c0, c1⟩)]
      refine ⟨rising_snoc h1 fun x hx => ?_, fun x => ?_⟩
      · have hx' := (h2 x).1 hx
        obtain ⟨i, hi'⟩ := List.mem_iff_getElem?.1 hx'
        have hik : i < k := by
          have := (List.getElem?_eq_some_iff.1 hi').1
          simp at this; omega
        rw [List.getElem?_take_of_lt hik] at hi'
        have hil : i < l.length := by omega
        have hxe : x = l[i] := by rw [List.getElem?_eq_getElem hil] at hi'; injection hi' with e; exact e.symm
        have hle : K x ≤ K l[k] := by rw [hxe]; exact (List.pairwise_iff_getElem.1 hs) i k hil (by omega) hik
        rcases Int.lt_or_eq_of_le hle with q | q
        · exact q
        · exfalso
          apply c
          have hk1 : k - 1 < l.length := by omega
          refine ⟨by omega, ?_⟩
          rw [List.getElem?_eq_getElem hk1]
          congr 1
          apply hi _ (List.getElem_mem hk1) _ (List.getElem_mem (by omega))
          have a1 : K l[k - 1] ≤ K l[k] := (List.pairwise_iff_getElem.1 hs) (k - 1) k hk1 (by omega) (by omega)
          have a2 : K l[i] ≤ K l[k - 1] := by
            rcases Nat.lt_or_ge i (k - 1) with d | d
            · exact (List.pairwise_iff_getElem.1 hs) i (k - 1) hil hk1 d
            · have : i = k - 1 := by omega
              subst this; omega
          rw [hxe] at q
          omega
      · rw [ht]
        simp only [List.mem_append, List.mem_singleton, h2]
theorem dis_unique {s s' : Pts} (h : Rising s) (h' : Rising s') (hm : ∀ x, x ∈ s ↔ x ∈ s') : s = s' := by
  have key : ∀ (s s' : Pts), Rising s → Rising s' → (∀ x, x ∈ s ↔ x ∈ s') → s = s' := by
    intro s
    induction s with
    | nil =>
      intro s' _ _ hm
      cases s' with
      | nil => rfl
      | cons a l => have := (hm a).2 (by simp); simp at this
    | cons a l ih =>
      intro s' h h' hm
      cases s' with
      | nil => have := (hm a).1 (by simp); simp at this
      | cons b l' =>
        have tl : ∀ {c : Pt} {t : Pts}, Rising (c :: t) → Rising t := fun hh i j x y hi hj hij => hh (i + 1) (j + 1) x y (by simpa using hi) (by simpa using hj) (by omega)
        have lt : ∀ {c : Pt} {t : Pts}, Rising (c :: t) → ∀ x ∈ t, K c < K x := fun hh x hx => by
          obtain ⟨i, hi⟩ := List.mem_iff_getElem?.1 hx
          exact hh 0 (i + 1) _ x rfl (by simpa using hi) (by omega)
        have e : a = b := by
          have m1 := (hm a).1 (by simp)
          have m2 := (hm b).2 (by simp)
          rcases List.mem_cons.1 m1 with e | m1
          · exact e
          · rcases List.mem_cons.1 m2 with e | m2
            · exact e.symm
            · have := lt h b m2; have := lt h' a m1; omega
        subst e
        congr 1
        refine ih l' (tl h) (tl h') fun x => ?_
        have hx := hm x
        simp only [List.mem_cons] at hx
        constructor
        · intro hl
          rcases hx.1 (.inr hl) with e | k
          · have := lt h x hl; rw [e] at this; omega
          · exact k
        · intro hl
          rcases hx.2 (.inr hl) with e | k
          · have := lt h' x hl; rw [e] at this; omega
          · exact k
  exact key s s' h h' hm

theorem New.own {w w1 w2 : World} {g : Nat} (h : New w w1) (h2 : w1.grownBy w2 (some g)) (hg : w.heap.size ≤ g) : New w w2 :=
  ⟨h2.os.trans h.os, h2.tape.trans h.tape, h2.output.trans h.output, Nat.le_trans h.size h2.size, fun k hk _ => (h2.block k (Nat.lt_of_lt_of_le hk h.size) (by simp; omega)).trans (h.block k hk (by simp))⟩
theorem sorted_K {l : Pts} (hc : ∀ x ∈ l, CdP x) (h : l.Pairwise fun x y => ltOf cmpP y x = false) : l.Pairwise fun x y => K x ≤ K y := by
  rw [List.pairwise_iff_getElem] at *
  intro i j hi hj hij
  have := h i j hi hj hij
  rw [ltOf_not, cmpP_eq (hc _ (List.getElem_mem hj)) (hc _ (List.getElem_mem hi)), sgn_neg'] at this
  omega

set_option maxHeartbeats 800000 in
theorem distinct_some (g off cap : Nat) (l : Pts) (w : World) (hp : PtsAt w g off l) (hl : l.length ≤ 1000000) (hc : ∀ x ∈ l, CdP x) :
    Calls Try.prog 86 #[.slice (some ⟨g, off, none⟩) l.length cap] w fun e w' => ∃ v s, e = .returned v ∧ Hid (IsDis l s ∧ New w w' ∧ OwnP w' w.heap.size v s) := by
  have HC : Hid (∀ x ∈ l, CdP x) := hc
  go_enter Try.func86, Try.ntmps86
  go_wp2_with fail
  refine (clone_some g off cap l w hp hl).mono ?_
  rintro e w1 ⟨v1, rfl, hv, H1⟩
  rcases H1.out.2.form with ⟨e1, _⟩ | ⟨g1, c1, e1, hb1, hg1, hlc, hcm⟩
  · exact absurd e1 hv
  · subst e1
    have HB : Hid (w.heap.size ≤ g1 ∧ g1 < w1.heap.size ∧ l.length ≤ c1) := ⟨hb1, hg1, hlc⟩
    clear hv hb1 hg1 hlc hcm hp hc
    go_wp2_with fail
    refine (sortP_any w.heap.size g1 c1 l w1 H1.out.2 HB.out.2.1 (by omega)).mono ?_
    rintro e w2 ⟨rfl, H2⟩
    obtain ⟨s2, k1, k2, k3, k4⟩ := H2.out
    have hlen : s2.length = l.length := k1.length_eq
    have HS : Hid (s2.Perm l ∧ (s2.Pairwise fun x y => K x ≤ K y) ∧ OwnP w2 w.heap.size (.slice (some ⟨g1, 0, none⟩) s2.length c1) s2 ∧ New w w2) := ⟨k1, sorted_K (fun x hx => HC.out x (k1.mem_iff.1 hx)) k2, by unfold OwnP; rw [hlen]; exact k3, H1.out.1.own k4 HB.out.1⟩
    clear H2 k1 k2 k3 k4
    have hq := compact_some w.heap.size g1 c1 s2 w2 HS.out.2.2.1 (by omega) (by have := HB.out.2.2; omega)
    rw [hlen] at hq
    have HL : Hid (s2.length = l.length) := hlen
    have HQ : Hid (Calls Try.prog 102 #[.slice (some ⟨g1, 0, none⟩) l.length c1] w2 fun e w' => e = .returned (.slice (some ⟨g1, 0, none⟩) (ddN s2 l.length).length c1) ∧ Hid (w2.grownBy w' (some g1) ∧ OwnP w' w.heap.size (.slice (some ⟨g1, 0, none⟩) (ddN s2 l.length).length c1) (ddN s2 l.length))) := hq
    clear hlen hq
    go_wp2_with fail
    refine HQ.out.mono ?_
    rintro e w3 ⟨rfl, H3⟩
    go_wp2_with fail
    go_ret
    rw [← HL.out]
    rw [← HL.out] at H3
    refine ⟨_, _, rfl, ⟨?_, ?_, ?_⟩, HS.out.2.2.2.own H3.out.1 HB.out.1, H3.out.2⟩
    · exact (ddN_dis HS.out.2.1 (fun x hx y hy hk => K_inj (HC.out x (HS.out.1.mem_iff.1 hx)) (HC.out y (HS.out.1.mem_iff.1 hy)) hk) s2.length (Nat.le_refl _)).1
    · intro x
      rw [(ddN_dis HS.out.2.1 (fun x hx y hy hk => K_inj (HC.out x (HS.out.1.mem_iff.1 hx)) (HC.out y (HS.out.1.mem_iff.1 hy)) hk) s2.length (Nat.le_refl _)).2, List.take_length]
      exact HS.out.1.mem_iff
    · have := ddN_le s2 s2.length; have := HL.out; omega

set_option maxHeartbeats 800000 in
theorem distinct_nil (w : World) : Calls Try.prog 86 #[.slice none 0 0] w fun e w' => e = .returned (.slice none 0 0) ∧ Hid (New w w') := by
  go_enter Try.func86, Try.ntmps86
  go_wp2_with fail
  refine (clone_nil w).mono ?_
  rintro e w1 ⟨rfl, H1⟩
  go_wp2_with fail
  refine (sortP_none none 0 _ _).mono ?_
  rintro e w2 ⟨rfl, rfl⟩
  go_wp2_with fail
  refine (compact_nil _).mono ?_
  rintro e w2 ⟨rfl, H2⟩
  go_wp2_with fail
  go_ret
  exact ⟨rfl, H1.out.trans' H2.out⟩

end Go.Proofs.Ytgeoffpcmkofkaa
/- 'Reverse' of package slices, at points. -/
namespace Go.Proofs.Ytgeoffpcmkofkaa
open Go.RowKit Fl Go.Sort Go.Shelf Go.Lib
set_option maxRecDepth 100000

def Try.revP_ren : Go.Shelf.Ren := ⟨fun | 35 => 88 | n => n, fun | 22 => 28 | 23 => 23 | n => n, fun | n => n⟩
theorem Try.revP : Go.Proofs.SlLaysE0.n35 Try.prog Try.revP_ren := {
  mixed := by kernel_rfl
  f35 := ⟨Try.f88.name, by decide, Try.func88.trans (congrArg some (by kernel_rfl))⟩
  t0 := Try.underlying0
  a0 := Try.isAgg0
  z0 := Try.sizeOf0
  v0 := Try.zeroValue0
  t3 := Try.underlying3
  a3 := Try.isAgg3
  z3 := Try.sizeOf3
  v3 := Try.zeroValue3
  t4 := Try.underlying4
  a4 := Try.isAgg4
  z4 := Try.sizeOf4
  v4 := Try.zeroValue4
  t22 := Try.underlying28
  a22 := Try.isAgg28
  z22 := Try.sizeOf28
  v22 := Try.zeroValue28 }
theorem reverse_any (base g cap : Nat) (l : Pts) (w : World) (h : OwnP w base (.slice (some ⟨g, 0, none⟩) l.length cap) l) (hl : l.length ≤ 1000000) :
    Calls Try.prog 88 #[.slice (some ⟨g, 0, none⟩) l.length cap] w fun e w' => e = .returned (.tuple #[]) ∧ Hid (w.grownBy w' (some g) ∧ OwnP w' base (.slice (some ⟨g, 0, none⟩) l.length cap) l.reverse) := by
  have hc := AnyQ.slices_Reverse Try.revP 2 Try.isAgg23 Try.sizeOf23 encP lenP (fun x v hv => by simp [encP] at hv; rcases hv with rfl | rfl <;> rfl) g 0 cap l.toArray w (holdsK_row lenP h rfl) (by simpa using (show l.length ≤ 9223372036854775807 by omega))
  change Calls Try.prog 88 _ _ _ at hc
  refine hc.mono fun e w' hh => ?_
  obtain ⟨he, n, rfl⟩ := hh
  have hr := sorted_row lenP (m := n) (os := #[]) (l' := l.reverse) h rfl (by simp)
  have e : sortWorldK encP 2 w g 0 n l.reverse.toArray #[] = putRowK encP 2 (Sort.ahead w n) g 0 l.toArray.reverse := by
    simp [sortWorldK, grow]
  rw [e] at hr
  exact ⟨he, hr.2, by unfold OwnP; rw [List.length_reverse]; exact hr.1⟩
end Go.Proofs.Ytgeoffpcmkofkaa
/- 'Grow' and 'Concat' of package slices, at points. -/
namespace Go.Proofs.Ytgeoffpcmkofkaa
open Go.RowKit Fl Go.Lib
set_option maxRecDepth 100000
attribute [local go_sem ↓] Go.wp_at_zero Go.wp_at_succ

set_option maxHeartbeats 800000 in
theorem grow_nil (n : Nat) (w : World) (h0 : 0 < n) (hn : n ≤ 1000000) :
    Calls Try.prog 103 #[.slice none 0 0, .int .i64 (n : Int)] w fun e w' => ∃ v, e = .returned v ∧ Hid (New w w' ∧ OwnP w' w.heap.size v []) := by
  obtain ⟨i0, hi0, hz0, hz1, hz2⟩ := info_parts Try.info23
  have k1 := run_append_nil_zeros (P := Try.prog) w 28 3 28 23 i0 _ .i64 .i64 Try.underlying28 Try.underlying3 hi0 hz0 n h0 (by rw [hz1]; omega) (by omega) (by rw [hz2]; omega)
  have HG : Hid (n ≤ grownCap w n 0 23 ∧ grownCap w n 0 23 ≤ maxLen) := ⟨grownCap_ge _ _ _ _, grownCap_le_maxLen _ _ _ _ (by unfold maxLen; omega)⟩
  have HO : Hid (∀ cap cur, cap = grownCap w n 0 23 → cur = Builtin.zeroCells (Value.cells (.agg #[.int .i64 0, .int .i64 0])) n ++ Builtin.zeroCells (Value.cells (.agg #[.int .i64 0, .int .i64 0])) (grownCap w n 0 23 - n) → (w.drew.alloc (.cells cur 23)).ownsRow w.heap.size 23 2 (.slice (some ⟨w.heap.size, 0, none⟩) 0 cap) 0 []) := fun cap cur hc hcur => by
    subst hc
    have h2 := HG.out
    exact World.ownsRow_made w.drew cur _ (Nat.le_refl _) h2.2 (by rw [hcur]; simp [Builtin.zeroCells, Value.cells]; omega)
  obtain ⟨cp, wk, k2, hcp, HK⟩ : ∃ cp wk, (Builtin.append_ #[28, 3] 28 #[.slice none 0 0, .int .i64 (n : Int)]).run Try.prog w = .ok (.slice (some ⟨w.heap.size, 0, none⟩) n cp) wk ∧ n ≤ cp ∧ Hid (New w wk ∧ OwnP wk w.heap.size (.slice (some ⟨w.heap.size, 0, none⟩) 0 cp) []) :=
    ⟨_, _, k1, HG.out.1, ((New.refl w).dr).alloc' _, HO.out _ _ rfl rfl⟩
  clear k1 HG HO hi0 hz0 hz1 hz2
  have hw1 : IntKind.i64.wrap (n : Int) = (n : Int) := by rw [IntKind.wrap_i64]; omega
  have hn0 : ¬((n : Int) < 0) := by omega
  have hn1 : (0 : Int) < (n : Int) := by omega
  go_enter Try.func103, Try.ntmps103
  go_wp2_with (first | (at_builtin; refine Go.Lib.wpList_append_run _ rfl _ _ 28 3 rfl _ _ rfl rfl _ wk k2 ?_) | go_in)
  go_ret
  exact ⟨_, rfl, HK.out⟩

theorem concat_step {w wr : World} {v : Value} {g c : Nat} {xs ys : Pts} (hn : New w wr) (ho : OwnP wr w.heap.size v xs) (hp : PtsAt wr g 0 ys) (hl : xs.length + ys.length ≤ 1000000) :
    ∃ vk wk, (Builtin.append_ #[28, 28] 28 #[v, .slice (some ⟨g, 0, none⟩) ys.length c]).run Try.prog wr = .ok vk wk ∧ Hid (New w wk ∧ OwnP wk w.heap.size vk (xs ++ ys)) := by
  obtain ⟨i0, hi0, hz0, hz1, hz2⟩ := info_parts Try.info23
  obtain ⟨vk, wk, k1, k2, k3, k4⟩ := run_append_own (P := Try.prog) wr w.heap.size 28 28 23 i0 _ 2 16 Try.underlying28 hi0 hz0 hz1 hz2 rfl (by omega) v xs.length (xs.flatMap encP) ho ⟨g, 0, none⟩ ys.length c (ys.flatMap encP) (flat_length lenP ys)
    (fun j u hu => by rw [← flatP_eq] at hu; exact pts_cells hp j u hu) (encP_one ys) (by unfold maxLen; omega) (by omega) (by have := hn.size; omega)
  refine ⟨vk, wk, k1, hn.trans k3 fun g hg => ?_, ?_⟩
  · rcases Nat.lt_or_ge g w.heap.size with h1 | h1
    · exact absurd hg.symm (own_ne ho h1)
    · exact h1
  · unfold OwnP
    rw [List.flatMap_append, List.length_append]
    exact k2

set_option maxHeartbeats 1600000 in
theorem concat_two (gs g1 c1 g2 c2 : Nat) (l1 l2 : Pts) (w : World) (q1 : w.cell? ⟨gs, 0, none⟩ = some (.slice (some ⟨g1, 0, none⟩) l1.length c1)) (q2 : w.cell? ⟨gs, 1, none⟩ = some (.slice (some ⟨g2, 0, none⟩) l2.length c2))
    (hp1 : PtsAt w g1 0 l1) (hp2 : PtsAt w g2 0 l2) (b1 : g1 < w.heap.size) (b2 : g2 < w.heap.size) (h0 : 0 < l1.length + l2.length) (hl : l1.length + l2.length ≤ 1000000) :
    Calls Try.prog 89 #[.slice (some ⟨gs, 0, none⟩) 2 2] w fun e w' => ∃ v, e = .returned v ∧ Hid (New w w' ∧ OwnP w' w.heap.size v (l1 ++ l2)) := by
  have HP : Hid (PtsAt w g1 0 l1 ∧ PtsAt w g2 0 l2 ∧ g1 < w.heap.size ∧ g2 < w.heap.size) := ⟨hp1, hp2, b1, b2⟩
  clear hp1 hp2 b1 b2
  have HQ : Hid (∀ V, New w V → V.cell? ⟨gs, 0, none⟩ = some (.slice (some ⟨g1, 0, none⟩) l1.length c1) ∧ V.cell? ⟨gs, 1, none⟩ = some (.slice (some ⟨g2, 0, none⟩) l2.length c2)) := fun V h => ⟨h.kept' q1, h.kept' q2⟩
  obtain ⟨n1, e1⟩ : ∃ n, n = l1.length := ⟨_, rfl⟩
  obtain ⟨n2, e2⟩ : ∃ n, n = l2.length := ⟨_, rfl⟩
  rw [← e1, ← e2] at h0 hl
  have HE : Hid (n1 = l1.length ∧ n2 = l2.length) := ⟨e1, e2⟩
  rw [← e1] at q1 HQ
  rw [← e2] at q2 HQ
  clear e1 e2
  have wr1 : IntKind.i64.wrap (n1 : Int) = (n1 : Int) := by rw [IntKind.wrap_i64]; omega
  have wr2 : IntKind.i64.wrap ((n1 : Int) + (n2 : Int)) = (n1 : Int) + (n2 : Int) := by rw [IntKind.wrap_i64]; omega
  have n10 : ¬((n1 : Int) < 0) := by omega
  have n20 : ¬((n1 : Int) + (n2 : Int) < 0) := by omega
  go_enter Try.func89, Try.ntmps89
  go_wp2_with fail
  go_loop [3, 11] (fun s i => (i = .int .i64 0 ∧ s = .int .i64 0) ∨ (i = .int .i64 1 ∧ s = .int .i64 (n1 : Int)) ∨ (i = .int .i64 2 ∧ s = .int .i64 ((n1 : Int) + (n2 : Int)))) (fun _ i => 2 - (intOf i).toNat)
  case atStart => exact .inl ⟨rfl, rfl⟩
  case round =>
    rcases hrel with ⟨rfl, rfl⟩ | ⟨rfl, rfl⟩ | ⟨rfl, rfl⟩
    · go_wp2_with fail
      go_round
      case rel => exact .inr (.inl ⟨rfl, rfl⟩)
      case measure => simp [intOf]
    · go_wp2_with fail
      go_round
      case rel => exact .inr (.inr ⟨rfl, rfl⟩)
      case measure => simp [intOf]
    · go_wp2_with fail
      have hg := grow_nil (n1 + n2) w h0 hl
      rw [Int.natCast_add] at hg
      refine hg.mono ?_
      rintro e w1 ⟨v1, rfl, H1⟩
      clear hg
      go_wp2_with fail
      clear q1 q2
      go_loopw [6, 27] (fun v i wr => (i = .int .i64 0 ∧ Hid (New w wr ∧ OwnP wr w.heap.size v [])) ∨ (i = .int .i64 1 ∧ Hid (New w wr ∧ OwnP wr w.heap.size v l1)) ∨ (i = .int .i64 2 ∧ Hid (New w wr ∧ OwnP wr w.heap.size v (l1 ++ l2)))) (fun _ i _ => 2 - (intOf i).toNat)
      case atStart => exact .inl ⟨rfl, H1⟩
      case round =>
        rcases hrel with ⟨rfl, H⟩ | ⟨rfl, H⟩ | ⟨rfl, H⟩
        · obtain ⟨q1, q2⟩ := HQ.out wr H.out.1
          obtain ⟨vk, wk, k1, R⟩ := concat_step (c := c1) H.out.1 H.out.2 (HP.out.1.kept HP.out.2.2.1 H.out.1) (by have := HE.out; simp; omega)
          rw [← HE.out.1] at k1
          go_wp2_with (first | (at_builtin; refine Go.Lib.wpList_append_run _ rfl _ _ 28 28 rfl _ _ rfl rfl vk wk k1 ?_) | go_in)
          go_roundw
          case rel => exact .inr (.inl ⟨rfl, R⟩)
          case measure => simp [intOf]
        · obtain ⟨q1, q2⟩ := HQ.out wr H.out.1
          obtain ⟨vk, wk, k1, R⟩ := concat_step (c := c2) H.out.1 H.out.2 (HP.out.2.1.kept HP.out.2.2.2 H.out.1) (by have := HE.out; omega)
          rw [← HE.out.2] at k1
          go_wp2_with (first | (at_builtin; refine Go.Lib.wpList_append_run _ rfl _ _ 28 28 rfl _ _ rfl rfl vk wk k1 ?_) | go_in)
          go_roundw
          case rel => exact .inr (.inr ⟨rfl, R⟩)
          case measure => simp [intOf]
        · go_wp2_with fail
          go_ret
          exact ⟨_, rfl, H.out⟩
end Go.Proofs.Ytgeoffpcmkofkaa
/- plumbref's 'First'. -/
namespace Go.Proofs.Ytgeoffpcmkofkaa
open Go.RowKit Fl
set_option maxRecDepth 100000
attribute [local go_sem ↓] Go.wp_at_zero Go.wp_at_succ

/-- None ahead of it is the same. -/
def firstB (l : Pts) (i : Nat) : Bool := decide (∀ k, k < i → l[k]? ≠ l[i]?)
set_option maxHeartbeats 1600000 in
theorem refFirst_any (g off cap : Nat) (l : Pts) (i : Nat) (w : World) (hp : PtsAt w g off l) (hg : g < w.heap.size) (hl : l.length ≤ 1000000) (hi : i < l.length) :
    Calls Try.prog 68 #[.slice (some ⟨g, off, none⟩) l.length cap, .int .i64 (i : Int)] w fun e w' => e = .returned (.bool (firstB l i)) ∧ Hid (New w w') := by
  have HP : Hid (PtsAt w g off l ∧ g < w.heap.size) := ⟨hp, hg⟩
  clear hp hg
  obtain ⟨q, hq⟩ : ∃ q, q = l[i] := ⟨_, rfl⟩
  have HI : Hid (l[i]? = some q) := by rw [Hid, hq]; exact List.getElem?_eq_getElem hi
  have HQ : Hid (∀ V, New w V → V.cell? ⟨g, off + i * 2, none⟩ = some (.int .i64 q.1) ∧ V.cell? ⟨g, off + i * 2 + 1, none⟩ = some (.int .i64 q.2)) := fun V hV => by
    have := HP.out.1.kept HP.out.2 hV i hi
    rw [← hq] at this
    exact this
  have b0 : (0 : Int) ≤ (i : Int) := by omega
  have b1 : (i : Int) < (l.length : Int) := by omega
  clear hq
  go_enter Try.func68, Try.ntmps68
  go_wp2_with fail
  go_loopw [5] (fun v wr => ∃ k : Nat, v = .int .i64 (k : Int) ∧ k ≤ i ∧ Hid (New w wr ∧ ∀ k', k' < k → l[k']? ≠ l[i]?)) (fun v _ => i - (intOf v).toNat)
  case atStart => exact ⟨0, rfl, Nat.zero_le _, New.refl _, fun k' h => by omega⟩
  case round =>
    obtain ⟨k, rfl, hk, H⟩ := hrel
    rcases Nat.lt_or_ge k i with hk' | hk'
    · obtain ⟨p, hpe⟩ : ∃ p, p = l[k] := ⟨_, rfl⟩
      have HK : Hid (l[k]? = some p) := by rw [Hid, hpe]; exact List.getElem?_eq_getElem (by omega)
      have HQ' : Hid (∀ V, New wr V → V.cell? ⟨g, off + k * 2, none⟩ = some (.int .i64 p.1) ∧ V.cell? ⟨g, off + k * 2 + 1, none⟩ = some (.int .i64 p.2) ∧ V.cell? ⟨g, off + i * 2, none⟩ = some (.int .i64 q.1) ∧ V.cell? ⟨g, off + i * 2 + 1, none⟩ = some (.int .i64 q.2)) := fun V hV => by
        have h1 := HP.out.1.kept HP.out.2 (H.out.1.trans' hV) k (by omega)
        rw [← hpe] at h1
        exact ⟨h1.1, h1.2, HQ.out V (H.out.1.trans' hV)⟩
      clear hpe
      have c0 : (0 : Int) ≤ (k : Int) := by omega
      have c1 : (k : Int) < (l.length : Int) := by omega
      have c2 : (k : Int) < (i : Int) := by omega
      have hw1 : IntKind.i64.wrap ((k : Int) + 1) = (k : Int) + 1 := by rw [IntKind.wrap_i64]; omega
      have HW : Hid (New wr wr.drew) := (New.refl _).dr
      go_wp2_with fail
      go_region_held3 (fun V => V.cell? ⟨g, off + k * 2, none⟩ = some (.int .i64 p.1) ∧ V.cell? ⟨g, off + k * 2 + 1, none⟩ = some (.int .i64 p.2) ∧ V.cell? ⟨g, off + i * 2, none⟩ = some (.int .i64 q.1) ∧ V.cell? ⟨g, off + i * 2 + 1, none⟩ = some (.int .i64 q.2))
        (first | exact HQ'.out _ HW.out)
        (first | (go_at_call 49; refine (same_any p.1 p.2 q.1 q.2 _).mono ?_; rintro e w3 ⟨rfl, H3⟩; replace HW : Hid (New wr w3) := HW.out.trans' H3.out; clear H3))
      cases hs : sameB (p.1, p.2) (q.1, q.2) with
      | true =>
        have HF : Hid (firstB l i = false) := decide_eq_false fun h => h k hk' (by rw [HK.out, HI.out]; congr 1; exact of_decide_eq_true hs)
        go_wp2_with fail
        go_ret
        exact ⟨by rw [HF.out]; rfl, H.out.1.trans' HW.out⟩
      | false =>
        have HS : Hid (p ≠ q) := of_decide_eq_false hs
        go_wp2_with fail
        go_roundw
        case rel =>
          refine ⟨k + 1, by go_num, hk', H.out.1.trans' HW.out, fun k' hlt => ?_⟩
          rcases Nat.lt_or_ge k' k with h | h
          · exact H.out.2 k' h
          · have : k' = k := by omega
            subst this
            rw [HK.out, HI.out]
            intro e
            injection e with e
            exact HS.out e
        case measure => simp [intOf]; omega
    · have e : k = i := by omega
      subst e
      have HF : Hid (firstB l k = true) := decide_eq_true H.out.2
      go_wp2_with fail
      go_ret
      exact ⟨by rw [HF.out]; rfl, H.out.1⟩
end Go.Proofs.Ytgeoffpcmkofkaa
/- plumbref's 'corner'. -/
namespace Go.Proofs.Ytgeoffpcmkofkaa
open Go.RowKit Fl
set_option maxRecDepth 100000
attribute [local go_sem ↓] Go.wp_at_zero Go.wp_at_succ

/-- From q towards p, r lies to the left or the same way. -/
def okJ (q p r : Pt) : Bool := decide (0 ≤ D q p r) && (!(decide (D q p r = 0) && onB p r q) || sameB r q)
def goodK (l : Pts) (q p : Pt) : Bool := !sameB p q && l.all (okJ q p)
def cornerB (l : Pts) (i : Nat) : Bool := match l[i]? with
  | some q => firstB l i && l.any (goodK l q)
  | none => false
/-- The cells of three points. -/
structure C3 (V : World) (g off i k j : Nat) (q p r : Pt) : Prop where
  q0 : V.cell? ⟨g, off + i * 2, none⟩ = some (.int .i64 q.1)
  q1 : V.cell? ⟨g, off + i * 2 + 1, none⟩ = some (.int .i64 q.2)
  p0 : V.cell? ⟨g, off + k * 2, none⟩ = some (.int .i64 p.1)
  p1 : V.cell? ⟨g, off + k * 2 + 1, none⟩ = some (.int .i64 p.2)
  r0 : V.cell? ⟨g, off + j * 2, none⟩ = some (.int .i64 r.1)
  r1 : V.cell? ⟨g, off + j * 2 + 1, none⟩ = some (.int .i64 r.2)
theorem all_take {l : Pts} {f : Pt → Bool} {j : Nat} {r : Pt} (h : l[j]? = some r) : (l.take (j + 1)).all f = ((l.take j).all f && f r) := by
  rw [List.take_add_one, h]
  simp
theorem any_take {l : Pts} {f : Pt → Bool} {j : Nat} {r : Pt} (h : l[j]? = some r) : (l.take (j + 1)).any f = ((l.take j).any f || f r) := by
  rw [List.take_add_one, h]
  simp
theorem all_short {l : Pts} {f : Pt → Bool} {j : Nat} (h : (l.take j).all f = false) : l.all f = false := by
  rw [Bool.eq_false_iff] at h ⊢
  intro h2
  apply h
  rw [List.all_eq_true] at h2 ⊢
  exact fun x hx => h2 x (List.mem_of_mem_take hx)

set_option maxHeartbeats 3200000 in
theorem corner_any (g off cap : Nat) (l : Pts) (i : Nat) (w : World) (hp : PtsAt w g off l) (hg : g < w.heap.size) (hl : l.length ≤ 1000000) (hi : i < l.length) (hc : ∀ x ∈ l, CdP x) :
    Calls Try.prog 52 #[.slice (some ⟨g, off, none⟩) l.length cap, .int .i64 (i : Int)] w fun e w' => e = .returned (.bool (cornerB l i)) ∧ Hid (New w w') := by
  have HP : Hid (PtsAt w g off l ∧ g < w.heap.size ∧ ∀ x ∈ l, CdP x) := ⟨hp, hg, hc⟩
  clear hp hg hc
  obtain ⟨q, hq⟩ : ∃ q, q = l[i] := ⟨_, rfl⟩
  have HI : Hid (l[i]? = some q ∧ CdP q ∧ cornerB l i = (firstB l i && l.any (goodK l q))) := by
    have h1 : l[i]? = some q := by rw [hq]; exact List.getElem?_eq_getElem hi
    exact ⟨h1, by rw [hq]; exact HP.out.2.2 _ (List.getElem_mem hi), by unfold cornerB; rw [h1]⟩
  have b0 : (0 : Int) ≤ (i : Int) := by omega
  have b1 : (i : Int) < (l.length : Int) := by omega
  clear hq
  go_enter Try.func52, Try.ntmps52
  go_wp2_with fail
  refine (refFirst_any g off cap l i w HP.out.1 HP.out.2.1 hl hi).mono ?_
  rintro e w1 ⟨rfl, H1⟩
  cases hf : firstB l i with
  | false =>
    have HF : Hid (cornerB l i = false) := by rw [Hid, HI.out.2.2, hf]; rfl
    go_wp2_with fail
    go_ret
    exact ⟨by rw [HF.out]; rfl, H1.out⟩
  | true =>
    have HF : Hid (cornerB l i = l.any (goodK l q)) := by rw [Hid, HI.out.2.2, hf]; rfl
    clear hf
    go_wp2_with fail
    go_loopw [6] (fun v wr => ∃ k : Nat, v = .int .i64 (k : Int) ∧ k ≤ l.length ∧ Hid (New w wr ∧ (l.take k).any (goodK l q) = false)) (fun v _ => l.length - (intOf v).toNat)
    case atStart => exact ⟨0, rfl, Nat.zero_le _, H1.out, rfl⟩
    case round =>
      obtain ⟨k, rfl, hk, H⟩ := hrel
      rcases Nat.lt_or_ge k l.length with hk' | hk'
      · obtain ⟨p, hpe⟩ : ∃ p, p = l[k] := ⟨_, rfl⟩
        have HK : Hid (l[k]? = some p ∧ CdP p) := ⟨by rw [hpe]; exact List.getElem?_eq_getElem hk', by rw [hpe]; exact HP.out.2.2 _ (List.getElem_mem hk')⟩
        have HC : Hid (∀ V, New wr V → ∀ j r, l[j]? = some r → C3 V g off i k j q p r) := fun V hV j r hr => by
          have hN := H.out.1.trans' hV
          have f : ∀ n x, l[n]? = some x → V.cell? ⟨g, off + n * 2, none⟩ = some (.int .i64 x.1) ∧ V.cell? ⟨g, off + n * 2 + 1, none⟩ = some (.int .i64 x.2) := fun n x hx => by
            obtain ⟨hn, rfl⟩ := List.getElem?_eq_some_iff.1 hx
            have := HP.out.1.kept HP.out.2.1 hN n hn
            exact this
          have f1 := f i q HI.out.1
          have f2 := f k p HK.out.1
          have f3 := f j r hr
          exact ⟨f1.1, f1.2, f2.1, f2.2, f3.1, f3.2⟩
        clear hpe
        have c0 : (0 : Int) ≤ (k : Int) := by omega
        have c1 : (k : Int) < (l.length : Int) := by omega
        have hw1 : IntKind.i64.wrap ((k : Int) + 1) = (k : Int) + 1 := by rw [IntKind.wrap_i64]; omega
        have HW : Hid (New wr wr.drew) := (New.refl _).dr
        go_wp2_with fail
        go_region_held3 (fun V => V.cell? ⟨g, off + k * 2, none⟩ = some (.int .i64 p.1) ∧ V.cell? ⟨g, off + k * 2 + 1, none⟩ = some (.int .i64 p.2) ∧ V.cell? ⟨g, off + i * 2, none⟩ = some (.int .i64 q.1) ∧ V.cell? ⟨g, off + i * 2 + 1, none⟩ = some (.int .i64 q.2))
          (first | (have t := HC.out _ HW.out i q HI.out.1; exact ⟨t.p0, t.p1, t.q0, t.q1⟩))
          (first | (go_at_call 49; refine (same_any p.1 p.2 q.1 q.2 _).mono ?_; rintro e w3 ⟨rfl, H3⟩; replace HW : Hid (New wr w3) := HW.out.trans' H3.out; clear H3))
        cases hs : sameB (p.1, p.2) (q.1, q.2) with
        | true =>
          have HS : Hid ((l.take (k + 1)).any (goodK l q) = false) := by
            rw [Hid, any_take HK.out.1, H.out.2]
            unfold goodK
            rw [show sameB p q = true from hs]
            rfl
          go_wp2_with fail
          go_roundw
          case rel => exact ⟨k + 1, by go_num, hk', H.out.1.trans' HW.out, HS.out⟩
          case measure => simp [intOf]; omega
        | false =>
          have HS : Hid (sameB p q = false) := hs
          clear hs
          go_wp2_with fail
          go_loopw [8, 9] (fun u v w4 => ∃ (b : Bool) (j : Nat), u = .bool b ∧ v = .int .i64 (j : Int) ∧ j ≤ l.length ∧ Hid (New wr w4 ∧ b = (l.take j).all (okJ q p))) (fun _ v _ => l.length - (intOf v).toNat)
          case atStart => exact ⟨true, 0, rfl, rfl, Nat.zero_le _, HW.out, rfl⟩
          case round =>
            obtain ⟨b, j, rfl, rfl, hj, HJ⟩ := hrel
            rcases Nat.lt_or_ge j l.length with hj' | hj'
            · have d1 : (j : Int) < (l.length : Int) := by omega
              cases b with
              | false =>
                have HA : Hid ((l.take (k + 1)).any (goodK l q) = false) := by
                  rw [Hid, any_take HK.out.1, H.out.2]
                  unfold goodK
                  rw [all_short HJ.out.2.symm]
                  simp
                go_wp2_with fail
                go_roundw
                case rel => exact ⟨k + 1, by go_num, hk', H.out.1.trans' HJ.out.1, HA.out⟩
                case measure => simp [intOf]; omega
              | true =>
                obtain ⟨r, hre⟩ : ∃ r, r = l[j] := ⟨_, rfl⟩
                have HR : Hid (l[j]? = some r ∧ CdP r) := ⟨by rw [hre]; exact List.getElem?_eq_getElem hj', by rw [hre]; exact HP.out.2.2 _ (List.getElem_mem hj')⟩
                clear hre
                have d0 : (0 : Int) ≤ (j : Int) := by omega
                have hw2 : IntKind.i64.wrap ((j : Int) + 1) = (j : Int) + 1 := by rw [IntKind.wrap_i64]; omega
                have HT : Hid ((l.take (j + 1)).all (okJ q p) = okJ q p r) := by rw [Hid, all_take HR.out.1, ← HJ.out.2]; rfl
                have HX : Hid (∀ V, New wr V → C3 V g off i k j q p r) := fun V hV => HC.out V (HJ.out.1.trans' hV) j r HR.out.1
                have HY : Hid (New wr wr.drew) := (New.refl _).dr
                have HCd : Hid (CdP q ∧ CdP p ∧ CdP r) := ⟨HI.out.2.1, HK.out.2, HR.out.2⟩
                go_wp2_with fail
                go_region_held3 (fun V => V.cell? ⟨g, off + i * 2, none⟩ = some (.int .i64 q.1) ∧ V.cell? ⟨g, off + i * 2 + 1, none⟩ = some (.int .i64 q.2) ∧ V.cell? ⟨g, off + k * 2, none⟩ = some (.int .i64 p.1) ∧ V.cell? ⟨g, off + k * 2 + 1, none⟩ = some (.int .i64 p.2) ∧ V.cell? ⟨g, off + j * 2, none⟩ = some (.int .i64 r.1) ∧ V.cell? ⟨g, off + j * 2 + 1, none⟩ = some (.int .i64 r.2))
                  (first | (have t := HX.out _ HY.out; exact ⟨t.q0, t.q1, t.p0, t.p1, t.r0, t.r1⟩))
                  (first | (go_at_call 13; refine (refSide_any q.1 q.2 p.1 p.2 r.1 r.2 _ HCd.out.1.1 HCd.out.1.2 HCd.out.2.1.1 HCd.out.2.1.2 HCd.out.2.2.1 HCd.out.2.2.2).mono ?_; rintro e w5 ⟨rfl, H5⟩; replace HY : Hid (New wr w5) := HY.out.trans' H5.out; clear H5))
                obtain ⟨sg, hsg⟩ : ∃ sg, sg = sgn (det q.1 q.2 p.1 p.2 r.1 r.2) := ⟨_, rfl⟩
                have HG : Hid (sg = sgn (D q p r)) := hsg
                rw [← hsg]
                clear hsg
                by_cases h0 : sg = 0
                · subst h0
                  have HD : Hid (D q p r = 0) := sgn_zero.1 HG.out.symm
                  have HY2 : Hid (New wr w5.drew) := HY.out.dr
                  clear HY
                  have HY := HY2
                  clear HY2
                  go_wp2_with fail
                  go_region_held3 (fun V => V.cell? ⟨g, off + i * 2, none⟩ = some (.int .i64 q.1) ∧ V.cell? ⟨g, off + i * 2 + 1, none⟩ = some (.int .i64 q.2) ∧ V.cell? ⟨g, off + k * 2, none⟩ = some (.int .i64 p.1) ∧ V.cell? ⟨g, off + k * 2 + 1, none⟩ = some (.int .i64 p.2) ∧ V.cell? ⟨g, off + j * 2, none⟩ = some (.int .i64 r.1) ∧ V.cell? ⟨g, off + j * 2 + 1, none⟩ = some (.int .i64 r.2))
                    (first | (have t := HX.out _ HY.out; exact ⟨t.q0, t.q1, t.p0, t.p1, t.r0, t.r1⟩))
                    (first | (go_at_call 48; refine (on_any p.1 p.2 r.1 r.2 q.1 q.2 _ HCd.out.2.1.1 HCd.out.2.1.2 HCd.out.2.2.1 HCd.out.2.2.2 HCd.out.1.1 HCd.out.1.2).mono ?_; rintro e w6 ⟨rfl, H5⟩; replace HY : Hid (New wr w6) := HY.out.trans' H5.out; clear H5))
                  have HY2 : Hid (New wr w6.drew) := HY.out.dr
                  clear HY
                  have HY := HY2
                  clear HY2
                  go_wp2_with fail
                  go_region_held3 (fun V => V.cell? ⟨g, off + i * 2, none⟩ = some (.int .i64 q.1) ∧ V.cell? ⟨g, off + i * 2 + 1, none⟩ = some (.int .i64 q.2) ∧ V.cell? ⟨g, off + j * 2, none⟩ = some (.int .i64 r.1) ∧ V.cell? ⟨g, off + j * 2 + 1, none⟩ = some (.int .i64 r.2))
                    (first | (have t := HX.out _ HY.out; exact ⟨t.q0, t.q1, t.r0, t.r1⟩))
                    (first | (go_at_call 49; refine (same_any r.1 r.2 q.1 q.2 _).mono ?_; rintro e w7 ⟨rfl, H5⟩; replace HY : Hid (New wr w7) := HY.out.trans' H5.out; clear H5))
                  cases ho : onB (p.1, p.2) (r.1, r.2) (q.1, q.2) with
                  | false =>
                    have HO : Hid (okJ q p r = true) := by rw [Hid, okJ, HD.out, show onB p r q = false from ho]; rfl
                    go_wp2_with fail
                    go_roundw
                    case rel => exact ⟨okJ q p r, j + 1, by rw [HO.out], by go_num, hj', HJ.out.1.trans' HY.out, HT.out.symm⟩
                    case measure => simp [intOf]; omega
                  | true =>
                    cases hs2 : sameB (r.1, r.2) (q.1, q.2) with
                    | false =>
                      have HO : Hid (okJ q p r = false) := by rw [Hid, okJ, HD.out, show onB p r q = true from ho, show sameB r q = false from hs2]; rfl
                      go_wp2_with fail
                      go_roundw
                      case rel => exact ⟨okJ q p r, j + 1, by rw [HO.out], by go_num, hj', HJ.out.1.trans' HY.out, HT.out.symm⟩
                      case measure => simp [intOf]; omega
                    | true =>
                      have HO : Hid (okJ q p r = true) := by rw [Hid, okJ, HD.out, show onB p r q = true from ho, show sameB r q = true from hs2]; rfl
                      go_wp2_with fail
                      go_roundw
                      case rel => exact ⟨okJ q p r, j + 1, by rw [HO.out], by go_num, hj', HJ.out.1.trans' HY.out, HT.out.symm⟩
                      case measure => simp [intOf]; omega
                · have g1 : decide (sg = 0) = false := by simpa using h0
                  have g2 : (sg == 0) = false := by simpa using h0
                  go_wp2_with fail
                  go_quiet (fail)
                  have HY2 : Hid (New wr (w5.drewN nq).drew) := (HY.out.drewN nq).dr
                  clear HY
                  have HY := HY2
                  clear HY2
                  have HD : Hid (¬D q p r = 0) := fun h => h0 (by rw [HG.out, sgn_zero.2 h])
                  generalize w5.drewN nq = W at *
                  go_wp2_with fail
                  go_region_held3 (fun V => V.cell? ⟨g, off + i * 2, none⟩ = some (.int .i64 q.1) ∧ V.cell? ⟨g, off + i * 2 + 1, none⟩ = some (.int .i64 q.2) ∧ V.cell? ⟨g, off + j * 2, none⟩ = some (.int .i64 r.1) ∧ V.cell? ⟨g, off + j * 2 + 1, none⟩ = some (.int .i64 r.2))
                    (first | (have t := HX.out _ HY.out; exact ⟨t.q0, t.q1, t.r0, t.r1⟩))
                    (first | (go_at_call 49; refine (same_any r.1 r.2 q.1 q.2 _).mono ?_; rintro e w7 ⟨rfl, H5⟩; replace HY : Hid (New wr w7) := HY.out.trans' H5.out; clear H5))
                  by_cases h1 : 0 ≤ sg
                  · have HO : Hid (okJ q p r = true) := by
                      have : 0 ≤ D q p r := by have h2 := HG.out; rcases sgn_cases (D q p r) with h | h | h <;> omega
                      rw [Hid, okJ, decide_eq_true this, decide_eq_false HD.out]
                      rfl
                    have g4 : decide (0 ≤ sg) = true := decide_eq_true h1
                    go_wp2_with fail
                    go_roundw
                    case rel => exact ⟨okJ q p r, j + 1, by rw [HO.out], by go_num, hj', HJ.out.1.trans' HY.out, HT.out.symm⟩
                    case measure => simp [intOf]; omega
                  · have HO : Hid (okJ q p r = false) := by
                      have : ¬0 ≤ D q p r := by have h2 := HG.out; rcases sgn_cases (D q p r) with h | h | h <;> omega
                      rw [Hid, okJ, decide_eq_false this]
                      rfl
                    have g4 : decide (0 ≤ sg) = false := decide_eq_false h1
                    go_wp2_with fail
                    go_roundw
                    case rel => exact ⟨okJ q p r, j + 1, by rw [HO.out], by go_num, hj', HJ.out.1.trans' HY.out, HT.out.symm⟩
                    case measure => simp [intOf]; omega
            · have hje : j = l.length := by omega
              subst hje
              cases b with
              | false =>
                have HA : Hid ((l.take (k + 1)).any (goodK l q) = false) := by
                  rw [Hid, any_take HK.out.1, H.out.2]
                  unfold goodK
                  rw [all_short HJ.out.2.symm]
                  simp
                go_wp2_with fail
                go_roundw
                case rel => exact ⟨k + 1, by go_num, hk', H.out.1.trans' HJ.out.1, HA.out⟩
                case measure => simp [intOf]; omega
              | true =>
                have HA : Hid (cornerB l i = true) := by
                  rw [Hid, HF.out, List.any_eq_true]
                  refine ⟨p, List.mem_of_getElem? HK.out.1, ?_⟩
                  unfold goodK
                  have := HJ.out.2
                  rw [List.take_length] at this
                  rw [HS.out, ← this]
                  rfl
                go_wp2_with fail
                go_ret
                exact ⟨by rw [HA.out]; rfl, H.out.1.trans' HJ.out.1⟩
      · have e : k = l.length := by omega
        subst e
        have HE : Hid (cornerB l i = false) := by rw [Hid, HF.out, ← H.out.2, List.take_length]
        go_wp2_with fail
        go_ret
        exact ⟨by rw [HE.out]; rfl, H.out.1⟩
end Go.Proofs.Ytgeoffpcmkofkaa
/- plumbref's 'next'. -/
namespace Go.Proofs.Ytgeoffpcmkofkaa
open Go.RowKit Fl
set_option maxRecDepth 100000
attribute [local go_sem ↓] Go.wp_at_zero Go.wp_at_succ

/-- The point with a number. -/
def pN (l : Pts) (i : Nat) : Pt := (l[i]?).getD (0, 0)
def leftJ (l : Pts) (a k j : Nat) : Bool := decide (0 ≤ D (pN l a) (pN l k) (pN l j))
def nextB (l : Pts) (cs : List Nat) (a k : Nat) : Bool := decide (k ≠ a) && cs.all (leftJ l a k)
def nextN (l : Pts) (cs : List Nat) (a : Nat) : Nat := (cs.find? (nextB l cs a)).getD a
/-- Numbers in a row. -/
def NumsAt (w : World) (g : Nat) (cs : List Nat) : Prop := ∀ (i n : Nat), cs[i]? = some n → w.cell? ⟨g, i, none⟩ = some (.int .i64 (n : Int))
theorem allN_take {cs : List Nat} {f : Nat → Bool} {j r : Nat} (h : cs[j]? = some r) : (cs.take (j + 1)).all f = ((cs.take j).all f && f r) := by
  rw [List.take_add_one, h]
  simp
theorem allN_short {cs : List Nat} {f : Nat → Bool} {j : Nat} (h : (cs.take j).all f = false) : cs.all f = false := by
  rw [Bool.eq_false_iff] at h ⊢
  intro h2
  apply h
  rw [List.all_eq_true] at h2 ⊢
  exact fun x hx => h2 x (List.mem_of_mem_take hx)
theorem find_take {cs : List Nat} {f : Nat → Bool} {j r : Nat} (h : cs[j]? = some r) (h1 : (cs.take j).find? f = none) (h2 : f r = false) : (cs.take (j + 1)).find? f = none := by
  rw [List.take_add_one, h, List.find?_append, h1]
  simp [h2]
theorem find_here {cs : List Nat} {f : Nat → Bool} {j r : Nat} (h : cs[j]? = some r) (h1 : (cs.take j).find? f = none) (h2 : f r = true) : cs.find? f = some r := by
  have e : cs = cs.take j ++ cs.drop j := (List.take_append_drop j cs).symm
  rw [e, List.find?_append, h1]
  have hj := (List.getElem?_eq_some_iff.1 h).1
  have : cs.drop j = r :: cs.drop (j + 1) := by
    rw [List.drop_eq_getElem_cons hj]
    congr 1
    rw [List.getElem?_eq_getElem hj] at h
    injection h
  rw [this]
  simp [h2]

set_option maxHeartbeats 3200000 in
theorem next_any (g off cap gc cc : Nat) (l : Pts) (cs : List Nat) (a : Nat) (w : World) (hp : PtsAt w g off l) (hg : g < w.heap.size) (hc : ∀ x ∈ l, CdP x) (ha : a < l.length) (hn : NumsAt w gc cs) (hcs : ∀ n ∈ cs, n < l.length) (hcl : cs.length ≤ 1000000) :
    Calls Try.prog 53 #[.slice (some ⟨g, off, none⟩) l.length cap, .slice (some ⟨gc, 0, none⟩) cs.length cc, .int .i64 (a : Int)] w fun e w' => e = .returned (.int .i64 (nextN l cs a : Int)) ∧ Hid (New w w') := by
  have HP : Hid (PtsAt w g off l ∧ g < w.heap.size ∧ (∀ x ∈ l, CdP x) ∧ NumsAt w gc cs ∧ ∀ n ∈ cs, n < l.length) := ⟨hp, hg, hc, hn, hcs⟩
  clear hp hg hc hn hcs
  have HF : Hid (∀ V, New w V → ∀ n, n < l.length → V.cell? ⟨g, off + n * 2, none⟩ = some (.int .i64 (pN l n).1) ∧ V.cell? ⟨g, off + n * 2 + 1, none⟩ = some (.int .i64 (pN l n).2)) := fun V hV n hn => by
    have := HP.out.1.kept HP.out.2.1 hV n hn
    rw [show pN l n = l[n] by simp [pN, hn]]
    exact this
  have HD : Hid (∀ n, n < l.length → CdP (pN l n)) := fun n hn => by rw [show pN l n = l[n] by simp [pN, hn]]; exact HP.out.2.2.1 _ (List.getElem_mem hn)
  have b0 : (0 : Int) ≤ (a : Int) := by omega
  have b1 : (a : Int) < (l.length : Int) := by omega
  go_enter Try.func53, Try.ntmps53
  go_wp2_with fail
  go_loopw [7] (fun v wr => ∃ k : Nat, v = .int .i64 (k : Int) ∧ k ≤ cs.length ∧ Hid (New w wr ∧ (cs.take k).find? (nextB l cs a) = none)) (fun v _ => cs.length - (intOf v).toNat)
  case atStart => exact ⟨0, rfl, Nat.zero_le _, New.refl _, rfl⟩
  case round =>
    obtain ⟨k, rfl, hk, H⟩ := hrel
    rcases Nat.lt_or_ge k cs.length with hk' | hk'
    · obtain ⟨n, hne⟩ : ∃ n, cs[k]? = some n := ⟨_, List.getElem?_eq_getElem hk'⟩
      have HK : Hid (cs[k]? = some n) := hne
      have hnl : n < l.length := HP.out.2.2.2.2 n (List.mem_of_getElem? hne)
      have x0 := H.out.1.kept' (HP.out.2.2.2.1 k n hne)
      clear hne
      have c0 : (0 : Int) ≤ (k : Int) := by omega
      have c1 : (k : Int) < (cs.length : Int) := by omega
      have hw1 : IntKind.i64.wrap ((k : Int) + 1) = (k : Int) + 1 := by rw [IntKind.wrap_i64]; omega
      obtain ⟨b, hb⟩ : ∃ b, b = decide (n ≠ a) := ⟨_, rfl⟩
      have hb' : ((n : Int) != (a : Int)) = b := by
        rw [hb]
        by_cases h : n = a
        · simp [h]
        · have h2 : (n : Int) ≠ (a : Int) := by omega
          rw [decide_eq_true h]
          exact bne_iff_ne.2 h2
      have HB : Hid (b = decide (n ≠ a)) := hb
      clear hb
      go_wp2_with fail
      have HW : Hid (New wr wr) := New.refl _
      clear x0
      go_loopw [9, 10] (fun u v w4 => ∃ (b' : Bool) (j : Nat), u = .bool b' ∧ v = .int .i64 (j : Int) ∧ j ≤ cs.length ∧ Hid (New wr w4 ∧ b' = (b && (cs.take j).all (leftJ l a n)))) (fun _ v _ => cs.length - (intOf v).toNat)
      case atStart => exact ⟨b, 0, rfl, rfl, Nat.zero_le _, HW.out, by simp⟩
      case round =>
        obtain ⟨b', j, rfl, rfl, hj, HJ⟩ := hrel
        rcases Nat.lt_or_ge j cs.length with hj' | hj'
        · have d1 : (j : Int) < (cs.length : Int) := by omega
          cases b' with
          | false =>
            have HA : Hid ((cs.take (k + 1)).find? (nextB l cs a) = none) := find_take HK.out H.out.2 (by
              unfold nextB
              rcases Bool.eq_false_or_eq_true (decide (n ≠ a)) with h | h
              · rw [h] at HB
                have h2 := HJ.out.2
                rw [HB.out, Bool.true_and] at h2
                rw [h, allN_short h2.symm]
                rfl
              · rw [h]
                rfl)
            go_wp2_with fail
            go_roundw
            case rel => exact ⟨k + 1, by go_num, hk', H.out.1.trans' HJ.out.1, HA.out⟩
            case measure => simp [intOf]; omega
          | true =>
            obtain ⟨m, hme⟩ : ∃ m, cs[j]? = some m := ⟨_, List.getElem?_eq_getElem hj'⟩
            have HM : Hid (cs[j]? = some m) := hme
            have hml : m < l.length := HP.out.2.2.2.2 m (List.mem_of_getElem? hme)
            clear hme
            have d0 : (0 : Int) ≤ (j : Int) := by omega
            have m0 : (0 : Int) ≤ (m : Int) := by omega
            have m1 : (m : Int) < (l.length : Int) := by omega
            have n0 : (0 : Int) ≤ (n : Int) := by omega
            have n1 : (n : Int) < (l.length : Int) := by omega
            have hw2 : IntKind.i64.wrap ((j : Int) + 1) = (j : Int) + 1 := by rw [IntKind.wrap_i64]; omega
            have HT : Hid ((b && (cs.take (j + 1)).all (leftJ l a n)) = leftJ l a n m) := by
              have h2 := HJ.out.2
              rw [Hid, allN_take HM.out, ← Bool.and_assoc, ← h2]
              rfl
            have HX : Hid (∀ V, New wr V → V.cell? ⟨g, off + a * 2, none⟩ = some (.int .i64 (pN l a).1) ∧ V.cell? ⟨g, off + a * 2 + 1, none⟩ = some (.int .i64 (pN l a).2) ∧ V.cell? ⟨g, off + n * 2, none⟩ = some (.int .i64 (pN l n).1) ∧ V.cell? ⟨g, off + n * 2 + 1, none⟩ = some (.int .i64 (pN l n).2) ∧ V.cell? ⟨g, off + m * 2, none⟩ = some (.int .i64 (pN l m).1) ∧ V.cell? ⟨g, off + m * 2 + 1, none⟩ = some (.int .i64 (pN l m).2) ∧ V.cell? ⟨gc, j, none⟩ = some (.int .i64 (m : Int))) := fun V hV => by
              have hN := (H.out.1.trans' HJ.out.1).trans' hV
              have f1 := HF.out V hN a ha
              have f2 := HF.out V hN n hnl
              have f3 := HF.out V hN m hml
              exact ⟨f1.1, f1.2, f2.1, f2.2, f3.1, f3.2, hN.kept' (HP.out.2.2.2.1 j m HM.out)⟩
            have HY : Hid (New wr wr.drew) := (New.refl _).dr
            have HCd : Hid (CdP (pN l a) ∧ CdP (pN l n) ∧ CdP (pN l m)) := ⟨HD.out a ha, HD.out n hnl, HD.out m hml⟩
            go_wp2_with fail
            go_region_held3 (fun V => V.cell? ⟨g, off + a * 2, none⟩ = some (.int .i64 (pN l a).1) ∧ V.cell? ⟨g, off + a * 2 + 1, none⟩ = some (.int .i64 (pN l a).2) ∧ V.cell? ⟨g, off + n * 2, none⟩ = some (.int .i64 (pN l n).1) ∧ V.cell? ⟨g, off + n * 2 + 1, none⟩ = some (.int .i64 (pN l n).2) ∧ V.cell? ⟨g, off + m * 2, none⟩ = some (.int .i64 (pN l m).1) ∧ V.cell? ⟨g, off + m * 2 + 1, none⟩ = some (.int .i64 (pN l m).2) ∧ V.cell? ⟨gc, j, none⟩ = some (.int .i64 (m : Int)))
              (first | exact HX.out _ HY.out)
              (first | (go_at_call 13; refine (refSide_any (pN l a).1 (pN l a).2 (pN l n).1 (pN l n).2 (pN l m).1 (pN l m).2 _ HCd.out.1.1 HCd.out.1.2 HCd.out.2.1.1 HCd.out.2.1.2 HCd.out.2.2.1 HCd.out.2.2.2).mono ?_; rintro e w5 ⟨rfl, H5⟩; replace HY : Hid (New wr w5) := HY.out.trans' H5.out; clear H5))
            have HO : Hid (decide (0 ≤ sgn (det (pN l a).1 (pN l a).2 (pN l n).1 (pN l n).2 (pN l m).1 (pN l m).2)) = leftJ l a n m) := by
              rw [Hid, leftJ]
              have : (0 ≤ sgn (det (pN l a).1 (pN l a).2 (pN l n).1 (pN l n).2 (pN l m).1 (pN l m).2)) ↔ 0 ≤ D (pN l a) (pN l n) (pN l m) := by
                unfold D
                rcases sgn_cases (det (pN l a).1 (pN l a).2 (pN l n).1 (pN l n).2 (pN l m).1 (pN l m).2) with h | h | h <;> omega
              exact decide_eq_decide.2 this
            go_wp2_with fail
            go_roundw
            case rel => exact ⟨leftJ l a n m, j + 1, by rw [← HO.out], by go_num, hj', HJ.out.1.trans' HY.out, HT.out.symm⟩
            case measure => simp [intOf]; omega
        · have hje : j = cs.length := by omega
          subst hje
          cases b' with
          | false =>
            have HA : Hid ((cs.take (k + 1)).find? (nextB l cs a) = none) := find_take HK.out H.out.2 (by
              unfold nextB
              rcases Bool.eq_false_or_eq_true (decide (n ≠ a)) with h | h
              · rw [h] at HB
                have h2 := HJ.out.2
                rw [HB.out, Bool.true_and] at h2
                rw [h, allN_short h2.symm]
                rfl
              · rw [h]
                rfl)
            go_wp2_with fail
            go_roundw
            case rel => exact ⟨k + 1, by go_num, hk', H.out.1.trans' HJ.out.1, HA.out⟩
            case measure => simp [intOf]; omega
          | true =>
            have HA : Hid (nextN l cs a = n) := by
              have h2 := HJ.out.2
              rw [List.take_length] at h2
              have h3 := h2.symm
              rw [Bool.and_eq_true] at h3
              rw [Hid, nextN, find_here HK.out H.out.2 (by unfold nextB; rw [← HB.out, h3.1, h3.2]; rfl)]
              rfl
            go_wp2_with fail
            go_ret
            exact ⟨by rw [HA.out]; rfl, H.out.1.trans' HJ.out.1⟩
    · have e : k = cs.length := by omega
      subst e
      have HE : Hid (nextN l cs a = a) := by
        have := H.out.2
        rw [List.take_length] at this
        rw [Hid, nextN, this]
        rfl
      go_wp2_with fail
      go_ret
      exact ⟨by rw [HE.out]; rfl, H.out.1⟩
end Go.Proofs.Ytgeoffpcmkofkaa
/- plumblaw's 'sameInts', of two rows that hold the same. -/
namespace Go.Proofs.Ytgeoffpcmkofkaa
open Go.RowKit Fl
set_option maxRecDepth 100000
attribute [local go_sem ↓] Go.wp_at_zero Go.wp_at_succ

/-- Numbers in a row that may be nil. -/
def IntsAt (w : World) (ao : Option Addr) (xs : List Int) : Prop := 0 < xs.length → ∃ g, ao = some ⟨g, 0, none⟩ ∧ ∀ (i : Nat) (x : Int), xs[i]? = some x → w.cell? ⟨g, i, none⟩ = some (.int .i64 x)
set_option maxHeartbeats 1600000 in
theorem sameInts_eq (a1 a2 : Option Addr) (c1 c2 : Nat) (xs : List Int) (w : World) (h1 : IntsAt w a1 xs) (h2 : IntsAt w a2 xs) (hl : xs.length ≤ 1000000) :
    Calls Try.prog 33 #[.slice a1 xs.length c1, .slice a2 xs.length c2] w fun e w' => e = .returned (.bool true) ∧ Hid (New w w') := by
  have HP : Hid (IntsAt w a1 xs ∧ IntsAt w a2 xs) := ⟨h1, h2⟩
  clear h1 h2
  have hne : ((xs.length : Int) != (xs.length : Int)) = false := by simp
  go_enter Try.func33, Try.ntmps33
  go_wp2_with fail
  go_loopw [5] (fun v wr => ∃ k : Nat, v = .int .i64 (k : Int) ∧ k ≤ xs.length ∧ Hid (New w wr)) (fun v _ => xs.length - (intOf v).toNat)
  case atStart => exact ⟨0, rfl, Nat.zero_le _, New.refl _⟩
  case round =>
    obtain ⟨k, rfl, hk, H⟩ := hrel
    rcases Nat.lt_or_ge k xs.length with hk' | hk'
    · obtain ⟨g1, e1, f1⟩ := HP.out.1 (by omega)
      obtain ⟨g2, e2, f2⟩ := HP.out.2 (by omega)
      subst e1 e2
      obtain ⟨x, hx⟩ : ∃ x, xs[k]? = some x := ⟨_, List.getElem?_eq_getElem hk'⟩
      have y1 := H.out.kept' (f1 k x hx)
      have y2 := H.out.kept' (f2 k x hx)
      clear f1 f2 hx
      have c0 : (0 : Int) ≤ (k : Int) := by omega
      have c1' : (k : Int) < (xs.length : Int) := by omega
      have hw1 : IntKind.i64.wrap ((k : Int) + 1) = (k : Int) + 1 := by rw [IntKind.wrap_i64]; omega
      have hx2 : (x != x) = false := by simp
      go_wp2_with fail
      go_quiet (fail)
      go_wp2_with fail
      go_roundw
      case rel => exact ⟨k + 1, by go_num, hk', H.out.drewN _⟩
      case measure => simp [intOf]; omega
    · go_wp2_with fail
      go_ret
      exact ⟨rfl, H.out⟩
end Go.Proofs.Ytgeoffpcmkofkaa
/- plumblaw's 'refused'. -/
namespace Go.Proofs.Ytgeoffpcmkofkaa
open Go.RowKit Fl
set_option maxRecDepth 100000
attribute [local go_sem ↓] Go.wp_at_zero Go.wp_at_succ

set_option maxHeartbeats 800000 in
theorem refused_any (ao : Option Addr) (cap : Nat) (l : Pts) (w : World) (h : PolyAt w ao l) (hc : l.length ≤ cap) (hs : cap ≤ 100000000000000) :
    Calls Try.prog 30 #[.slice ao l.length cap] w fun e w' => e = .returned (.int .i64 (errL l)) ∧ Hid (New w w') := by
  go_enter Try.func30, Try.ntmps30
  go_wp2_with fail
  refine (bad_poly ao cap l w h hc hs).mono ?_
  rintro e w1 ⟨rfl, rfl⟩
  by_cases h40 : 40 < l.length
  · have HE : Hid (errL l = 2) := by rw [Hid, errL, if_pos h40]
    have g1 : (40 : Int) < (l.length : Int) := by omega
    go_wp2_with fail
    go_ret
    exact ⟨by rw [HE.out]; rfl, New.refl _⟩
  · have g1 : ¬(40 : Int) < (l.length : Int) := by omega
    cases hb : okB l with
    | false =>
      have HE : Hid (errL l = 1) := by rw [Hid, errL, if_neg h40, okE, hb]; rfl
      go_wp2_with fail
      go_ret
      exact ⟨by rw [HE.out]; rfl, New.refl _⟩
    | true =>
      have HE : Hid (errL l = 0) := by rw [Hid, errL, if_neg h40, okE, hb]; rfl
      go_wp2_with fail
      go_ret
      exact ⟨by rw [HE.out]; rfl, New.refl _⟩
end Go.Proofs.Ytgeoffpcmkofkaa
