/- The walk of plumbref's 'Meet'. -/
import Derived.Test.YtgeoffpcmkofkaaYg
import Derived.Test.YtgeoffpcmkofkaaYd
import Derived.Test.YtgeoffpcmkofkaaXe
namespace Go.Proofs.Ytgeoffpcmkofkaa
open Go.RowKit Fl Dg
set_option maxRecDepth 100000
attribute [local go_sem ↓] Go.wp_at_zero Go.wp_at_succ

/-- The points that both have, of the first k. -/
def bothK (a b c d : Pt) (k : Nat) : List Pt := ([a, b, c, d].take k).foldl (bothStep a b c d) []
theorem bothK_succ (a b c d : Pt) {k : Nat} (hk : k < [a, b, c, d].length) : bothK a b c d (k + 1) = bothStep a b c d (bothK a b c d k) ([a, b, c, d][k]) := by
  unfold bothK
  rw [List.take_succ_eq_append_getElem hk, List.foldl_append]
  rfl
theorem bothStep_len (a b c d : Pt) (l : List Pt) (p : Pt) : (bothStep a b c d l p).length ≤ l.length + 1 := by
  unfold bothStep
  split <;> simp
theorem bothK_len (a b c d : Pt) : ∀ k, k ≤ [a, b, c, d].length → (bothK a b c d k).length ≤ k
  | 0, _ => by simp [bothK]
  | k + 1, h => by
    rw [bothK_succ a b c d (by omega)]
    have := bothStep_len a b c d (bothK a b c d k) [a, b, c, d][k]
    have := bothK_len a b c d k (by omega)
    omega
theorem bothStep_yes {a b c d : Pt} {l : List Pt} {p : Pt} (h1 : onB a b p = true) (h2 : onB c d p = true) (h3 : l.all (fun q => !sameB q p) = true) : bothStep a b c d l p = l ++ [p] := by
  unfold bothStep
  have : l.all (fun q => !decide (q = p)) = true := h3
  rw [h1, h2, this]
  rfl
theorem bothStep_no1 {a b c d : Pt} {l : List Pt} {p : Pt} (h1 : onB a b p = false) : bothStep a b c d l p = l := by
  unfold bothStep
  rw [h1]
  rfl
theorem bothStep_no2 {a b c d : Pt} {l : List Pt} {p : Pt} (h1 : onB c d p = false) : bothStep a b c d l p = l := by
  unfold bothStep
  rw [h1, Bool.and_false]
  rfl
theorem bothStep_no3 {a b c d : Pt} {l : List Pt} {p : Pt} (h3 : l.all (fun q => !sameB q p) = false) : bothStep a b c d l p = l := by
  unfold bothStep
  have : l.all (fun q => !decide (q = p)) = false := h3
  rw [this, Bool.and_false]
  rfl

/-- Four points and the list of them lie in memory. -/
structure M4 (w : World) (B : Nat) (ax ay bx by' cx cy dx dy : Int) : Prop where
  c0 : w.cell? ⟨B, 0, none⟩ = some (.int .i64 ax)
  c1 : w.cell? ⟨B, 1, none⟩ = some (.int .i64 ay)
  c2 : w.cell? ⟨B + 1, 0, none⟩ = some (.int .i64 bx)
  c3 : w.cell? ⟨B + 1, 1, none⟩ = some (.int .i64 by')
  c4 : w.cell? ⟨B + 1 + 1, 0, none⟩ = some (.int .i64 cx)
  c5 : w.cell? ⟨B + 1 + 1, 1, none⟩ = some (.int .i64 cy)
  c6 : w.cell? ⟨B + 1 + 1 + 1, 0, none⟩ = some (.int .i64 dx)
  c7 : w.cell? ⟨B + 1 + 1 + 1, 1, none⟩ = some (.int .i64 dy)
  l : PtsAt w (B + 1 + 1 + 1 + 1) 0 [(ax, ay), (bx, by'), (cx, cy), (dx, dy)]
  lt : B + 1 + 1 + 1 + 1 < w.heap.size
theorem M4.next {w w' : World} {B : Nat} {ax ay bx by' cx cy dx dy : Int} (h : M4 w B ax ay bx by' cx cy dx dy) (H : New w w') : M4 w' B ax ay bx by' cx cy dx dy :=
  ⟨H.kept h.c0, H.kept h.c1, H.kept h.c2, H.kept h.c3, H.kept h.c4, H.kept h.c5, H.kept h.c6, H.kept h.c7, h.l.kept h.lt H, Nat.lt_of_lt_of_le h.lt H.size⟩

/-- The points that were gathered. -/
structure Both (W wr : World) (v : Value) (out : Pts) : Prop where
  new : New W wr
  own : wr.ownsRow W.heap.size 23 2 v out.length (flatP out)
theorem Both.kept {W wr w' : World} {v : Value} {out : Pts} (h : Both W wr v out) (H : New wr w') : Both W w' v out :=
  ⟨h.new.trans' H, h.own.kept H (by cases hv : v.ownBlock <;> simp)⟩
theorem flatP_len (l : Pts) : (flatP l).length = l.length * 2 := by
  induction l with
  | nil => rfl
  | cons p l ih => simp [flatP, ih]; omega
theorem flatP_at : ∀ (l : Pts) (i : Nat) (h : i < l.length), (flatP l)[i * 2]? = some (.int .i64 l[i].1) ∧ (flatP l)[i * 2 + 1]? = some (.int .i64 l[i].2)
  | [], i, h => by simp at h
  | p :: l, 0, h => ⟨rfl, rfl⟩
  | p :: l, i + 1, h => by
    have := flatP_at l i (by simpa using h)
    have e1 : (i + 1) * 2 = i * 2 + 1 + 1 := by omega
    rw [e1]
    simpa [flatP] using this
theorem row_pts {w : World} {base g cap : Nat} {out : Pts} (h : w.ownsRow base 23 2 (.slice (some ⟨g, 0, none⟩) out.length cap) out.length (flatP out)) : PtsAt w g 0 out := by
  intro i hi
  have := flatP_at out i hi
  rw [Nat.zero_add, h.cellAt (i * 2) (by omega), h.cellAt (i * 2 + 1) (by omega)]
  exact this
theorem row_shape {w : World} {base n : Nat} {e : TypeId} {size : Nat} {v : Value} {xs : List Value} (h : w.ownsRow base e size v n xs) : (v = .slice none 0 0 ∧ n = 0) ∨ ∃ g cap, v = .slice (some ⟨g, 0, none⟩) n cap ∧ base ≤ g ∧ g < w.heap.size := by
  rcases h.2 with h | ⟨g, cap, cur, e1, e2, e3, _⟩
  · exact Or.inl h
  · exact Or.inr ⟨g, cap, e1, e2, (Array.getElem?_eq_some_iff.1 e3).1⟩

theorem Both.next {W w1 w2 : World} {v v' : Value} {out : Pts} {x y : Int} (h : Both W w1 v out) (b : Obj)
    (hown : w2.ownsRow W.heap.size 23 2 v' (out.length + 1) (flatP out ++ [.int .i64 x, .int .i64 y])) (hgrow : (w1.alloc b).grownBy w2 v.ownBlock) : Both W w2 v' (out ++ [(x, y)]) := by
  refine ⟨(h.new.alloc' b).trans hgrow fun g e => ?_, by rw [flatP_append, List.length_append]; exact hown⟩
  rcases Nat.lt_or_ge g W.heap.size with h1 | h1
  · exact absurd e.symm (own_ne h.own h1)
  · exact h1
theorem sgn_prod' (x y : Int) : -1 ≤ sgn x * sgn y ∧ sgn x * sgn y ≤ 1 := by
  rcases sgn_cases x with ⟨_, e⟩ | ⟨_, e⟩ | ⟨_, e⟩ <;> rcases sgn_cases y with ⟨_, f⟩ | ⟨_, f⟩ | ⟨_, f⟩ <;> rw [e, f] <;> omega
theorem all_take {out : Pts} {j : Nat} {p : Pt} (hj : j < out.length) : (out.take (j + 1)).all (fun q => !sameB q p) = ((out.take j).all (fun q => !sameB q p) && !sameB out[j] p) := by
  rw [List.take_succ_eq_append_getElem hj, List.all_append]
  simp
theorem heap_at_last {W : World} {o : Obj} {n : Nat} (hn : n = W.heap.size) : (W.alloc o).heap[n]? = some o := by
  subst hn; exact _root_.Go.heap_alloc_new W o

set_option maxHeartbeats 4000000 in
theorem refMeet_any (ax ay bx by' cx cy dx dy : Int) (w : World) (ha : CdP (ax, ay)) (hb : CdP (bx, by')) (hc : CdP (cx, cy)) (hd : CdP (dx, dy)) :
    Calls Try.prog 25 #[.agg #[.int .i64 ax, .int .i64 ay], .agg #[.int .i64 bx, .int .i64 by'], .agg #[.int .i64 cx, .int .i64 cy], .agg #[.int .i64 dx, .int .i64 dy]] w fun e w' => e = .returned (.int .i64 (meetRef (ax, ay) (bx, by') (cx, cy) (dx, dy))) ∧ Hid (New w w') := by
  have HC : Hid ((Cd ax ∧ Cd ay) ∧ (Cd bx ∧ Cd by') ∧ (Cd cx ∧ Cd cy) ∧ (Cd dx ∧ Cd dy)) := ⟨ha, hb, hc, hd⟩
  have HL : Hid (∀ k (hk : k < [(ax, ay), (bx, by'), (cx, cy), (dx, dy)].length), CdP ([(ax, ay), (bx, by'), (cx, cy), (dx, dy)][k])) := by
    intro k hk
    match k, hk with
    | 0, _ => exact ha
    | 1, _ => exact hb
    | 2, _ => exact hc
    | 3, _ => exact hd
  clear ha hb hc hd
  obtain ⟨i0, hi0, hz0, hz1, hz2⟩ := info_parts Try.info23
  obtain ⟨W, hW⟩ : ∃ W, W = ((((w.alloc (.cells #[.int .i64 ax, .int .i64 ay] 23)).alloc (.cells #[.int .i64 bx, .int .i64 by'] 23)).alloc (.cells #[.int .i64 cx, .int .i64 cy] 23)).alloc (.cells #[.int .i64 dx, .int .i64 dy] 23)).alloc (.cells #[.int .i64 ax, .int .i64 ay, .int .i64 bx, .int .i64 by', .int .i64 cx, .int .i64 cy, .int .i64 dx, .int .i64 dy] 23) := ⟨_, rfl⟩
  have HW : Hid (New w W) := by rw [hW]; exact ((((New.alloc _ _).alloc' _).alloc' _).alloc' _).alloc' _
  have HM : Hid (M4 W w.heap.size ax ay bx by' cx cy dx dy) := by
    rw [hW]
    exact ⟨by go_simp, by go_simp, by go_simp, by go_simp, by go_simp, by go_simp, by go_simp, by go_simp, ptsAt4 (heap_at_last (by simp)), by simp⟩
  go_enter Try.func25, Try.ntmps25
  go_wp2_with fail
  rw [← hW]
  clear hW
  go_loopw [10, 11] (fun v i wr => ∃ (k : Nat), i = .int .i64 k ∧ k ≤ 4 ∧ Hid (Both W wr v (bothK (ax, ay) (bx, by') (cx, cy) (dx, dy) k)))
    (fun _ i _ => 4 - (intOf i).toNat)
  case atStart => exact ⟨0, rfl, by omega, ⟨New.refl _, World.ownsRow_nil _ _ _ _⟩⟩
  case round =>
    obtain ⟨k, rfl, hle, H⟩ := hrel
    by_cases hk : k < 4
    · obtain ⟨px, py, HP⟩ : ∃ px py : Int, Hid ((px, py) = [(ax, ay), (bx, by'), (cx, cy), (dx, dy)][k]'hk) := ⟨_, _, rfl⟩
      obtain ⟨out, hout⟩ : ∃ out, out = bothK (ax, ay) (bx, by') (cx, cy) (dx, dy) k := ⟨_, rfl⟩
      rw [← hout] at H
      have HOUT : Hid (out = bothK (ax, ay) (bx, by') (cx, cy) (dx, dy) k) := hout
      have hlen : out.length ≤ k := by rw [hout]; exact bothK_len _ _ _ _ k (by simp; omega)
      clear hout
      obtain ⟨ao, cc, hv⟩ : ∃ ao cc, u10 = .slice ao out.length cc := by
        rcases row_shape H.out.own with ⟨e1, e2⟩ | ⟨g, cap, e1, _⟩
        · exact ⟨_, _, by rw [e1, e2]⟩
        · exact ⟨_, _, e1⟩
      subst hv
      have HPC : Hid (Cd px ∧ Cd py) := by have := HL.out k hk; rw [← HP.out] at this; exact this
      have mpt : ∀ {w' : World}, M4 w' w.heap.size ax ay bx by' cx cy dx dy → (px, py) = [(ax, ay), (bx, by'), (cx, cy), (dx, dy)][k]'hk → w'.cell? ⟨w.heap.size + 1 + 1 + 1 + 1, k * 2, none⟩ = some (.int .i64 px) ∧ w'.cell? ⟨w.heap.size + 1 + 1 + 1 + 1, k * 2 + 1, none⟩ = some (.int .i64 py) := by
        intro w' hm hp
        have := hm.l k hk
        rw [← hp, Nat.zero_add] at this
        exact this
      replace HM : Hid (M4 wr w.heap.size ax ay bx by' cx cy dx dy) := HM.out.next H.out.new
      obtain ⟨c0, c1, c2, c3, c4, c5, c6, c7, _, _⟩ := HM.out
      obtain ⟨e0, e1⟩ := mpt HM.out HP.out
      go_wp2_with fail
      replace H : Hid (Both W wr.drew _ out) := H.out.kept ((New.refl wr).drewN 1)
      replace HM : Hid (M4 wr.drew w.heap.size ax ay bx by' cx cy dx dy) := HM.out.next ((New.refl wr).drewN 1)
      go_region_held3 (fun w' => w'.cell? ⟨w.heap.size, 0, none⟩ = some (.int .i64 ax) ∧ w'.cell? ⟨w.heap.size, 1, none⟩ = some (.int .i64 ay) ∧ w'.cell? ⟨w.heap.size + 1, 0, none⟩ = some (.int .i64 bx) ∧ w'.cell? ⟨w.heap.size + 1, 1, none⟩ = some (.int .i64 by') ∧ w'.cell? ⟨w.heap.size + 1 + 1 + 1 + 1, k * 2, none⟩ = some (.int .i64 px) ∧ w'.cell? ⟨w.heap.size + 1 + 1 + 1 + 1, k * 2 + 1, none⟩ = some (.int .i64 py))
        (first | exact ⟨HM.out.c0, HM.out.c1, HM.out.c2, HM.out.c3, (mpt HM.out HP.out).1, (mpt HM.out HP.out).2⟩ | go_keep)
        (first | (go_at_call 48; refine (on_any ax ay bx by' px py _ HC.out.1.1 HC.out.1.2 HC.out.2.1.1 HC.out.2.1.2 HPC.out.1 HPC.out.2).mono ?_; rintro e w' ⟨rfl, H'⟩; replace H : Hid (Both W w' _ out) := H.out.kept H'.out; replace HM : Hid (M4 w' w.heap.size ax ay bx by' cx cy dx dy) := HM.out.next H'.out))

      clear H' c0 c1 c2 c3 c4 c5 c6 c7 e0 e1
      obtain ⟨c0, c1, c2, c3, c4, c5, c6, c7, _, _⟩ := HM.out
      obtain ⟨e0, e1⟩ := mpt HM.out HP.out
      go_wp2_with fail
      replace H : Hid (Both W _ _ out) := H.out.kept ((New.refl _).drewN 1)
      replace HM : Hid (M4 _ w.heap.size ax ay bx by' cx cy dx dy) := HM.out.next ((New.refl _).drewN 1)
      go_region_held3 (fun w' => w'.cell? ⟨w.heap.size + 1 + 1, 0, none⟩ = some (.int .i64 cx) ∧ w'.cell? ⟨w.heap.size + 1 + 1, 1, none⟩ = some (.int .i64 cy) ∧ w'.cell? ⟨w.heap.size + 1 + 1 + 1, 0, none⟩ = some (.int .i64 dx) ∧ w'.cell? ⟨w.heap.size + 1 + 1 + 1, 1, none⟩ = some (.int .i64 dy) ∧ w'.cell? ⟨w.heap.size + 1 + 1 + 1 + 1, k * 2, none⟩ = some (.int .i64 px) ∧ w'.cell? ⟨w.heap.size + 1 + 1 + 1 + 1, k * 2 + 1, none⟩ = some (.int .i64 py))
        (first | exact ⟨HM.out.c4, HM.out.c5, HM.out.c6, HM.out.c7, (mpt HM.out HP.out).1, (mpt HM.out HP.out).2⟩ | go_keep)
        (first | (go_at_call 48; refine (on_any cx cy dx dy px py _ HC.out.2.2.1.1 HC.out.2.2.1.2 HC.out.2.2.2.1 HC.out.2.2.2.2 HPC.out.1 HPC.out.2).mono ?_; rintro e w' ⟨rfl, H'⟩; replace H : Hid (Both W w' _ out) := H.out.kept H'.out; replace HM : Hid (M4 w' w.heap.size ax ay bx by' cx cy dx dy) := HM.out.next H'.out))

      clear H' c0 c1 c2 c3 c4 c5 c6 c7 e0 e1
      cases hx : onB (ax, ay) (bx, by') (px, py) with
      | false =>
        have hs : bothK (ax, ay) (bx, by') (cx, cy) (dx, dy) (k + 1) = out := by rw [bothK_succ _ _ _ _ hk, ← HP.out, ← HOUT.out, bothStep_no1 hx]
        have HSS : Hid (bothK (ax, ay) (bx, by') (cx, cy) (dx, dy) (k + 1) = out) := hs
        clear hs hx
        go_wp2_with fail
        go_loopw [14, 15] (fun nv jv w2 => ∃ j : Nat, jv = .int .i64 j ∧ j ≤ out.length ∧ nv = .bool false ∧ Hid (Both W w2 (.slice ao out.length cc) out ∧ M4 w2 w.heap.size ax ay bx by' cx cy dx dy))
          (fun _ jv _ => out.length - (intOf jv).toNat)
        case atStart => exact ⟨0, rfl, Nat.zero_le _, rfl, H.out, HM.out⟩
        case round =>
          obtain ⟨j, rfl, hj, rfl, HB⟩ := hrel
          by_cases hj2 : j < out.length
          · obtain ⟨g, cap, hg, hg1, hg2⟩ : ∃ g cap, (Value.slice ao out.length cc) = .slice (some ⟨g, 0, none⟩) out.length cap ∧ W.heap.size ≤ g ∧ g < wr.heap.size := by
              rcases row_shape HB.out.1.own with ⟨e1, e2⟩ | h
              · omega
              · exact h
            injection hg with hg3 hg4 hg5
            subst hg3 hg5
            have HG : Hid (PtsAt wr g 0 out ∧ g < wr.heap.size) := ⟨row_pts HB.out.1.own, hg2⟩
            obtain ⟨qx, hqx⟩ : ∃ qx, qx = out[j].1 := ⟨_, rfl⟩
            obtain ⟨qy, hqy⟩ : ∃ qy, qy = out[j].2 := ⟨_, rfl⟩
            have HQ : Hid ((qx, qy) = out[j]) := by rw [hqx, hqy]; rfl
            have f0 : wr.cell? ⟨g, j * 2, none⟩ = some (.int .i64 qx) := by have := (HG.out.1 j hj2).1; rw [Nat.zero_add, ← hqx] at this; exact this
            have f1 : wr.cell? ⟨g, j * 2 + 1, none⟩ = some (.int .i64 qy) := by have := (HG.out.1 j hj2).2; rw [Nat.zero_add, ← hqy] at this; exact this
            clear hqx hqy
            obtain ⟨e0, e1⟩ := mpt HB.out.2 HP.out
            go_wp2_with fail
            replace HB : Hid (Both W wr.drew (.slice (some ⟨g, 0, none⟩) out.length cc) out ∧ M4 wr.drew w.heap.size ax ay bx by' cx cy dx dy) := ⟨HB.out.1.kept ((New.refl _).drewN 1), HB.out.2.next ((New.refl _).drewN 1)⟩
            go_region_held3 (fun w' => w'.cell? ⟨g, j * 2, none⟩ = some (.int .i64 qx) ∧ w'.cell? ⟨g, j * 2 + 1, none⟩ = some (.int .i64 qy) ∧ w'.cell? ⟨w.heap.size + 1 + 1 + 1 + 1, k * 2, none⟩ = some (.int .i64 px) ∧ w'.cell? ⟨w.heap.size + 1 + 1 + 1 + 1, k * 2 + 1, none⟩ = some (.int .i64 py))
              (first | exact ⟨H'.out.kept f0, H'.out.kept f1, (mpt HB.out.2 HP.out).1, (mpt HB.out.2 HP.out).2⟩ | go_keep)
              (first | (go_at_call 49; refine (same_any qx qy px py _).mono ?_; rintro e w' ⟨rfl, H'⟩; replace HB : Hid (Both W w' (.slice (some ⟨g, 0, none⟩) out.length cc) out ∧ M4 w' w.heap.size ax ay bx by' cx cy dx dy) := ⟨HB.out.1.kept H'.out, HB.out.2.next H'.out⟩))
            clear H' f0 f1 e0 e1
            go_wp2_with fail
            go_roundw
            case rel => exact ⟨j + 1, by go_num, hj2, rfl, HB⟩
            case measure => simp [intOf]; omega
          · have hjj : j = out.length := by omega
            subst hjj
            go_wp2_with fail
            go_roundw
            case rel => exact ⟨k + 1, by go_num, by omega, by rw [Hid, HSS.out]; exact HB.out.1⟩
            case measure => simp [intOf]; omega
      | true =>
        have HX : Hid (onB (ax, ay) (bx, by') (px, py) = true) := hx
        clear hx
        cases hy : onB (cx, cy) (dx, dy) (px, py) with
        | false =>
          have hs : bothK (ax, ay) (bx, by') (cx, cy) (dx, dy) (k + 1) = out := by rw [bothK_succ _ _ _ _ hk, ← HP.out, ← HOUT.out, bothStep_no2 hy]
          have HSS : Hid (bothK (ax, ay) (bx, by') (cx, cy) (dx, dy) (k + 1) = out) := hs
          clear hs hy
          go_wp2_with fail
          go_loopw [14, 15] (fun nv jv w2 => ∃ j : Nat, jv = .int .i64 j ∧ j ≤ out.length ∧ nv = .bool false ∧ Hid (Both W w2 (.slice ao out.length cc) out ∧ M4 w2 w.heap.size ax ay bx by' cx cy dx dy))
            (fun _ jv _ => out.length - (intOf jv).toNat)
          case atStart => exact ⟨0, rfl, Nat.zero_le _, rfl, H.out, HM.out⟩
          case round =>
            obtain ⟨j, rfl, hj, rfl, HB⟩ := hrel
            by_cases hj2 : j < out.length
            · obtain ⟨g, cap, hg, hg1, hg2⟩ : ∃ g cap, (Value.slice ao out.length cc) = .slice (some ⟨g, 0, none⟩) out.length cap ∧ W.heap.size ≤ g ∧ g < wr.heap.size := by
                rcases row_shape HB.out.1.own with ⟨e1, e2⟩ | h
                · omega
                · exact h
              injection hg with hg3 hg4 hg5
              subst hg3 hg5
              have HG : Hid (PtsAt wr g 0 out ∧ g < wr.heap.size) := ⟨row_pts HB.out.1.own, hg2⟩
              obtain ⟨qx, hqx⟩ : ∃ qx, qx = out[j].1 := ⟨_, rfl⟩
              obtain ⟨qy, hqy⟩ : ∃ qy, qy = out[j].2 := ⟨_, rfl⟩
              have HQ : Hid ((qx, qy) = out[j]) := by rw [hqx, hqy]; rfl
              have f0 : wr.cell? ⟨g, j * 2, none⟩ = some (.int .i64 qx) := by have := (HG.out.1 j hj2).1; rw [Nat.zero_add, ← hqx] at this; exact this
              have f1 : wr.cell? ⟨g, j * 2 + 1, none⟩ = some (.int .i64 qy) := by have := (HG.out.1 j hj2).2; rw [Nat.zero_add, ← hqy] at this; exact this
              clear hqx hqy
              obtain ⟨e0, e1⟩ := mpt HB.out.2 HP.out
              go_wp2_with fail
              replace HB : Hid (Both W wr.drew (.slice (some ⟨g, 0, none⟩) out.length cc) out ∧ M4 wr.drew w.heap.size ax ay bx by' cx cy dx dy) := ⟨HB.out.1.kept ((New.refl _).drewN 1), HB.out.2.next ((New.refl _).drewN 1)⟩
              go_region_held3 (fun w' => w'.cell? ⟨g, j * 2, none⟩ = some (.int .i64 qx) ∧ w'.cell? ⟨g, j * 2 + 1, none⟩ = some (.int .i64 qy) ∧ w'.cell? ⟨w.heap.size + 1 + 1 + 1 + 1, k * 2, none⟩ = some (.int .i64 px) ∧ w'.cell? ⟨w.heap.size + 1 + 1 + 1 + 1, k * 2 + 1, none⟩ = some (.int .i64 py))
                (first | exact ⟨H'.out.kept f0, H'.out.kept f1, (mpt HB.out.2 HP.out).1, (mpt HB.out.2 HP.out).2⟩ | go_keep)
                (first | (go_at_call 49; refine (same_any qx qy px py _).mono ?_; rintro e w' ⟨rfl, H'⟩; replace HB : Hid (Both W w' (.slice (some ⟨g, 0, none⟩) out.length cc) out ∧ M4 w' w.heap.size ax ay bx by' cx cy dx dy) := ⟨HB.out.1.kept H'.out, HB.out.2.next H'.out⟩))
              clear H' f0 f1 e0 e1
              go_wp2_with fail
              go_roundw
              case rel => exact ⟨j + 1, by go_num, hj2, rfl, HB⟩
              case measure => simp [intOf]; omega
            · have hjj : j = out.length := by omega
              subst hjj
              go_wp2_with fail
              go_roundw
              case rel => exact ⟨k + 1, by go_num, by omega, by rw [Hid, HSS.out]; exact HB.out.1⟩
              case measure => simp [intOf]; omega
        | true =>
          have HY : Hid (onB (cx, cy) (dx, dy) (px, py) = true) := hy
          clear hy
          go_wp2_with fail
          go_loopw [14, 15] (fun nv jv w2 => ∃ j : Nat, jv = .int .i64 j ∧ j ≤ out.length ∧ nv = .bool ((out.take j).all (fun q => !sameB q (px, py))) ∧ Hid (Both W w2 (.slice ao out.length cc) out ∧ M4 w2 w.heap.size ax ay bx by' cx cy dx dy))
            (fun _ jv _ => out.length - (intOf jv).toNat)
          case atStart => exact ⟨0, rfl, Nat.zero_le _, rfl, H.out, HM.out⟩
          case round =>
            obtain ⟨j, rfl, hj, rfl, HB⟩ := hrel
            by_cases hj2 : j < out.length
            · obtain ⟨g, cap, hg, hg1, hg2⟩ : ∃ g cap, (Value.slice ao out.length cc) = .slice (some ⟨g, 0, none⟩) out.length cap ∧ W.heap.size ≤ g ∧ g < wr.heap.size := by
                rcases row_shape HB.out.1.own with ⟨e1, e2⟩ | h
                · omega
                · exact h
              injection hg with hg3 hg4 hg5
              subst hg3 hg5
              have HG : Hid (PtsAt wr g 0 out ∧ g < wr.heap.size) := ⟨row_pts HB.out.1.own, hg2⟩
              obtain ⟨qx, hqx⟩ : ∃ qx, qx = out[j].1 := ⟨_, rfl⟩
              obtain ⟨qy, hqy⟩ : ∃ qy, qy = out[j].2 := ⟨_, rfl⟩
              have HQ : Hid ((qx, qy) = out[j]) := by rw [hqx, hqy]; rfl
              have f0 : wr.cell? ⟨g, j * 2, none⟩ = some (.int .i64 qx) := by have := (HG.out.1 j hj2).1; rw [Nat.zero_add, ← hqx] at this; exact this
              have f1 : wr.cell? ⟨g, j * 2 + 1, none⟩ = some (.int .i64 qy) := by have := (HG.out.1 j hj2).2; rw [Nat.zero_add, ← hqy] at this; exact this
              clear hqx hqy
              obtain ⟨e0, e1⟩ := mpt HB.out.2 HP.out
              go_wp2_with fail
              replace HB : Hid (Both W wr.drew (.slice (some ⟨g, 0, none⟩) out.length cc) out ∧ M4 wr.drew w.heap.size ax ay bx by' cx cy dx dy) := ⟨HB.out.1.kept ((New.refl _).drewN 1), HB.out.2.next ((New.refl _).drewN 1)⟩
              go_region_held3 (fun w' => w'.cell? ⟨g, j * 2, none⟩ = some (.int .i64 qx) ∧ w'.cell? ⟨g, j * 2 + 1, none⟩ = some (.int .i64 qy) ∧ w'.cell? ⟨w.heap.size + 1 + 1 + 1 + 1, k * 2, none⟩ = some (.int .i64 px) ∧ w'.cell? ⟨w.heap.size + 1 + 1 + 1 + 1, k * 2 + 1, none⟩ = some (.int .i64 py))
                (first | exact ⟨H'.out.kept f0, H'.out.kept f1, (mpt HB.out.2 HP.out).1, (mpt HB.out.2 HP.out).2⟩ | go_keep)
                (first | (go_at_call 49; refine (same_any qx qy px py _).mono ?_; rintro e w' ⟨rfl, H'⟩; replace HB : Hid (Both W w' (.slice (some ⟨g, 0, none⟩) out.length cc) out ∧ M4 w' w.heap.size ax ay bx by' cx cy dx dy) := ⟨HB.out.1.kept H'.out, HB.out.2.next H'.out⟩))
              clear H' f0 f1 e0 e1
              have HA : Hid ((out.take (j + 1)).all (fun q => !sameB q (px, py)) = ((out.take j).all (fun q => !sameB q (px, py)) && !sameB (qx, qy) (px, py))) := by rw [HQ.out]; exact all_take hj2
              generalize (out.take j).all (fun q => !sameB q (px, py)) = t at *
              generalize sameB (qx, qy) (px, py) = u at *
              cases t
              · go_wp2_with fail
                go_roundw
                case rel => exact ⟨j + 1, by go_num, hj2, by rw [HA.out]; rfl, HB⟩
                case measure => simp [intOf]; omega
              · go_wp2_with fail
                go_roundw
                case rel => exact ⟨j + 1, by go_num, hj2, by rw [HA.out]; rfl, HB⟩
                case measure => simp [intOf]; omega
            · have hjj : j = out.length := by omega
              subst hjj
              rw [List.take_length]
              cases ht : out.all (fun q => !sameB q (px, py)) with
              | false =>
                have HSS : Hid (bothK (ax, ay) (bx, by') (cx, cy) (dx, dy) (k + 1) = out) := by rw [Hid, bothK_succ _ _ _ _ hk, ← HP.out, ← HOUT.out, bothStep_no3 ht]
                clear ht
                go_wp2_with fail
                go_roundw
                case rel => exact ⟨k + 1, by go_num, by omega, by rw [Hid, HSS.out]; exact HB.out.1⟩
                case measure => simp [intOf]; omega
              | true =>
                have HSS : Hid (bothK (ax, ay) (bx, by') (cx, cy) (dx, dy) (k + 1) = out ++ [(px, py)]) := by rw [Hid, bothK_succ _ _ _ _ hk, ← HP.out, ← HOUT.out, bothStep_yes HX.out HY.out ht]
                clear ht
                obtain ⟨e0, e1⟩ := mpt HB.out.2 HP.out
                go_wp2_with (at_builtin; refine wpList_append_own _ rfl _ _ 28 rfl W.heap.size 23 i0 (.agg #[.int .i64 0, .int .i64 0]) 2 16 Try.underlying28 hi0 hz0 hz1 hz2 rfl (by decide) _ _ _ rfl (HB.out.1.own.alloc _) ⟨wr.heap.size, 0, none⟩ 1 1 [.int .i64 px, .int .i64 py] rfl rfl (World.news_of_block (cs := #[.int .i64 px, .int .i64 py]) (t := 23) (fr := (0, 0)) (heap_alloc_new _ _)) ?c2 ?c3 ?c4 ?c5 ?_)
                case c2 => simp [Value.oneCell']
                case c3 => unfold maxLen; omega
                case c4 => omega
                case c5 => have := HB.out.1.new.size; simp; omega
                intro v' w3 hown1 hgrow1 hnil
                have HR : Hid (Both W w3 v' (out ++ [(px, py)])) := HB.out.1.next _ hown1 hgrow1
                clear hown1 hgrow1 hnil e0 e1
                go_wp2_with fail
                go_roundw
                case rel => exact ⟨k + 1, by go_num, by omega, by rw [Hid, HSS.out]; exact HR.out⟩
                case measure => simp [intOf]; omega
    · have hk4 : k = 4 := by omega
      subst hk4
      obtain ⟨out, hout⟩ : ∃ out, out = both (ax, ay) (bx, by') (cx, cy) (dx, dy) := ⟨_, rfl⟩
      have HO : Hid (out = both (ax, ay) (bx, by') (cx, cy) (dx, dy)) := hout
      replace H : Hid (Both W wr u10 out) := by rw [hout]; exact H
      clear hout
      have hlen : out.length ≤ 4 := by rw [HO.out]; exact bothK_len _ _ _ _ 4 (by simp)
      obtain ⟨ao, cc, hv⟩ : ∃ ao cc, u10 = .slice ao out.length cc := by
        rcases row_shape H.out.own with ⟨e1, e2⟩ | ⟨g, cap, e1, _⟩
        · exact ⟨_, _, by rw [e1, e2]⟩
        · exact ⟨_, _, e1⟩
      subst hv
      replace HM : Hid (M4 wr w.heap.size ax ay bx by' cx cy dx dy) := HM.out.next H.out.new
      have HB : Hid (New W wr) := H.out.new
      rcases (show 1 < out.length ∨ out.length = 1 ∨ out.length = 0 by omega) with h | h | h
      · have HV : Hid (meetRef (ax, ay) (bx, by') (cx, cy) (dx, dy) = 3) := by rw [Hid, meetRef, ← HO.out, if_pos h]
        go_wp2_with fail
        go_ret
        exact ⟨by rw [HV.out]; rfl, HW.out.trans' HB.out⟩
      · have HV : Hid (meetRef (ax, ay) (bx, by') (cx, cy) (dx, dy) = 2) := by rw [Hid, meetRef, ← HO.out, if_neg (by omega), if_pos h]
        go_wp2_with fail
        go_ret
        exact ⟨by rw [HV.out]; rfl, HW.out.trans' HB.out⟩
      · have hp1 := sgn_prod' (det ax ay bx by' cx cy) (det ax ay bx by' dx dy)
        have hp2 := sgn_prod' (det cx cy dx dy ax ay) (det cx cy dx dy bx by')
        have hw1 : IntKind.i64.wrap (sgn (det ax ay bx by' cx cy) * sgn (det ax ay bx by' dx dy)) = sgn (det ax ay bx by' cx cy) * sgn (det ax ay bx by' dx dy) := by rw [IntKind.wrap_i64]; omega
        have hw2 : IntKind.i64.wrap (sgn (det cx cy dx dy ax ay) * sgn (det cx cy dx dy bx by')) = sgn (det cx cy dx dy ax ay) * sgn (det cx cy dx dy bx by') := by rw [IntKind.wrap_i64]; omega
        clear hp1 hp2
        obtain ⟨c0, c1, c2, c3, c4, c5, c6, c7, _, _⟩ := HM.out
        by_cases p : sgn (det ax ay bx by' cx cy) * sgn (det ax ay bx by' dx dy) < 0
        · by_cases q : sgn (det cx cy dx dy ax ay) * sgn (det cx cy dx dy bx by') < 0
          · have HV : Hid (meetRef (ax, ay) (bx, by') (cx, cy) (dx, dy) = 1) := by rw [Hid, meetRef, ← HO.out, if_neg (by omega), if_neg (by omega), if_pos ⟨p, q⟩]
            go_wp2_with fail
            replace HM : Hid (M4 wr.drew w.heap.size ax ay bx by' cx cy dx dy) := HM.out.next ((New.refl wr).drewN 1)
            replace HB : Hid (New W wr.drew) := HB.out.drewN 1
            have F1 : Hid (0 ≤ 0) := Nat.le_refl _
            have F2 : Hid (0 ≤ 0) := Nat.le_refl _
            have F3 : Hid (0 ≤ 0) := Nat.le_refl _
            go_region_held3 (fun w' => w'.cell? ⟨w.heap.size, 0, none⟩ = some (.int .i64 ax) ∧ w'.cell? ⟨w.heap.size, 1, none⟩ = some (.int .i64 ay) ∧ w'.cell? ⟨w.heap.size + 1, 0, none⟩ = some (.int .i64 bx) ∧ w'.cell? ⟨w.heap.size + 1, 1, none⟩ = some (.int .i64 by') ∧ w'.cell? ⟨w.heap.size + 1 + 1, 0, none⟩ = some (.int .i64 cx) ∧ w'.cell? ⟨w.heap.size + 1 + 1, 1, none⟩ = some (.int .i64 cy) ∧ w'.cell? ⟨w.heap.size + 1 + 1 + 1, 0, none⟩ = some (.int .i64 dx) ∧ w'.cell? ⟨w.heap.size + 1 + 1 + 1, 1, none⟩ = some (.int .i64 dy))
              (first | exact ⟨HM.out.c0, HM.out.c1, HM.out.c2, HM.out.c3, HM.out.c4, HM.out.c5, HM.out.c6, HM.out.c7⟩ | go_keep)
              (first
                | (go_at_call 13; clear F1; refine (refSide_any ax ay bx by' cx cy _ HC.out.1.1 HC.out.1.2 HC.out.2.1.1 HC.out.2.1.2 HC.out.2.2.1.1 HC.out.2.2.1.2).mono ?_; rintro e w' ⟨rfl, H'⟩; replace HB : Hid (New W w') := HB.out.trans' H'.out; replace HM : Hid (M4 w' w.heap.size ax ay bx by' cx cy dx dy) := HM.out.next H'.out)
                | (go_at_call 13; clear F2; refine (refSide_any ax ay bx by' dx dy _ HC.out.1.1 HC.out.1.2 HC.out.2.1.1 HC.out.2.1.2 HC.out.2.2.2.1 HC.out.2.2.2.2).mono ?_; rintro e w' ⟨rfl, H'⟩; replace HB : Hid (New W w') := HB.out.trans' H'.out; replace HM : Hid (M4 w' w.heap.size ax ay bx by' cx cy dx dy) := HM.out.next H'.out)
                | (go_at_call 13; clear F3; refine (refSide_any cx cy dx dy ax ay _ HC.out.2.2.1.1 HC.out.2.2.1.2 HC.out.2.2.2.1 HC.out.2.2.2.2 HC.out.1.1 HC.out.1.2).mono ?_; rintro e w' ⟨rfl, H'⟩; replace HB : Hid (New W w') := HB.out.trans' H'.out; replace HM : Hid (M4 w' w.heap.size ax ay bx by' cx cy dx dy) := HM.out.next H'.out)
                | (go_at_call 13; refine (refSide_any cx cy dx dy bx by' _ HC.out.2.2.1.1 HC.out.2.2.1.2 HC.out.2.2.2.1 HC.out.2.2.2.2 HC.out.2.1.1 HC.out.2.1.2).mono ?_; rintro e w' ⟨rfl, H'⟩; replace HB : Hid (New W w') := HB.out.trans' H'.out; replace HM : Hid (M4 w' w.heap.size ax ay bx by' cx cy dx dy) := HM.out.next H'.out))
            clear H' c0 c1 c2 c3 c4 c5 c6 c7
            go_wp2_with fail
            go_ret
            exact ⟨by rw [HV.out]; rfl, HW.out.trans' HB.out⟩
          · have HV : Hid (meetRef (ax, ay) (bx, by') (cx, cy) (dx, dy) = 0) := by rw [Hid, meetRef, ← HO.out, if_neg (by omega), if_neg (by omega), if_neg (fun h => q h.2)]
            go_wp2_with fail
            replace HM : Hid (M4 wr.drew w.heap.size ax ay bx by' cx cy dx dy) := HM.out.next ((New.refl wr).drewN 1)
            replace HB : Hid (New W wr.drew) := HB.out.drewN 1
            have F1 : Hid (0 ≤ 0) := Nat.le_refl _
            have F2 : Hid (0 ≤ 0) := Nat.le_refl _
            have F3 : Hid (0 ≤ 0) := Nat.le_refl _
            go_region_held3 (fun w' => w'.cell? ⟨w.heap.size, 0, none⟩ = some (.int .i64 ax) ∧ w'.cell? ⟨w.heap.size, 1, none⟩ = some (.int .i64 ay) ∧ w'.cell? ⟨w.heap.size + 1, 0, none⟩ = some (.int .i64 bx) ∧ w'.cell? ⟨w.heap.size + 1, 1, none⟩ = some (.int .i64 by') ∧ w'.cell? ⟨w.heap.size + 1 + 1, 0, none⟩ = some (.int .i64 cx) ∧ w'.cell? ⟨w.heap.size + 1 + 1, 1, none⟩ = some (.int .i64 cy) ∧ w'.cell? ⟨w.heap.size + 1 + 1 + 1, 0, none⟩ = some (.int .i64 dx) ∧ w'.cell? ⟨w.heap.size + 1 + 1 + 1, 1, none⟩ = some (.int .i64 dy))
              (first | exact ⟨HM.out.c0, HM.out.c1, HM.out.c2, HM.out.c3, HM.out.c4, HM.out.c5, HM.out.c6, HM.out.c7⟩ | go_keep)
              (first
                | (go_at_call 13; clear F1; refine (refSide_any ax ay bx by' cx cy _ HC.out.1.1 HC.out.1.2 HC.out.2.1.1 HC.out.2.1.2 HC.out.2.2.1.1 HC.out.2.2.1.2).mono ?_; rintro e w' ⟨rfl, H'⟩; replace HB : Hid (New W w') := HB.out.trans' H'.out; replace HM : Hid (M4 w' w.heap.size ax ay bx by' cx cy dx dy) := HM.out.next H'.out)
                | (go_at_call 13; clear F2; refine (refSide_any ax ay bx by' dx dy _ HC.out.1.1 HC.out.1.2 HC.out.2.1.1 HC.out.2.1.2 HC.out.2.2.2.1 HC.out.2.2.2.2).mono ?_; rintro e w' ⟨rfl, H'⟩; replace HB : Hid (New W w') := HB.out.trans' H'.out; replace HM : Hid (M4 w' w.heap.size ax ay bx by' cx cy dx dy) := HM.out.next H'.out)
                | (go_at_call 13; clear F3; refine (refSide_any cx cy dx dy ax ay _ HC.out.2.2.1.1 HC.out.2.2.1.2 HC.out.2.2.2.1 HC.out.2.2.2.2 HC.out.1.1 HC.out.1.2).mono ?_; rintro e w' ⟨rfl, H'⟩; replace HB : Hid (New W w') := HB.out.trans' H'.out; replace HM : Hid (M4 w' w.heap.size ax ay bx by' cx cy dx dy) := HM.out.next H'.out)
                | (go_at_call 13; refine (refSide_any cx cy dx dy bx by' _ HC.out.2.2.1.1 HC.out.2.2.1.2 HC.out.2.2.2.1 HC.out.2.2.2.2 HC.out.2.1.1 HC.out.2.1.2).mono ?_; rintro e w' ⟨rfl, H'⟩; replace HB : Hid (New W w') := HB.out.trans' H'.out; replace HM : Hid (M4 w' w.heap.size ax ay bx by' cx cy dx dy) := HM.out.next H'.out))
            clear H' c0 c1 c2 c3 c4 c5 c6 c7
            go_wp2_with fail
            go_ret
            exact ⟨by rw [HV.out]; rfl, HW.out.trans' HB.out⟩
        · have HV : Hid (meetRef (ax, ay) (bx, by') (cx, cy) (dx, dy) = 0) := by rw [Hid, meetRef, ← HO.out, if_neg (by omega), if_neg (by omega), if_neg (fun h => p h.1)]
          have hp01 : sgn (det ax ay bx by' cx cy) * sgn (det ax ay bx by' dx dy) = 0 ∨ sgn (det ax ay bx by' cx cy) * sgn (det ax ay bx by' dx dy) = 1 := by
            have := (sgn_prod' (det ax ay bx by' cx cy) (det ax ay bx by' dx dy)).2
            omega
          clear p
          have hw0 : IntKind.i64.wrap 0 = 0 := by rw [IntKind.wrap_i64]; omega
          have hw9 : IntKind.i64.wrap 1 = 1 := by rw [IntKind.wrap_i64]; omega
          rcases hp01 with p | p
          · go_wp2_with fail
            replace HM : Hid (M4 wr.drew w.heap.size ax ay bx by' cx cy dx dy) := HM.out.next ((New.refl wr).drewN 1)
            replace HB : Hid (New W wr.drew) := HB.out.drewN 1
            refine wp_region_held_drew (S := (fun w' => w'.cell? ⟨w.heap.size, 0, none⟩ = some (.int .i64 ax) ∧ w'.cell? ⟨w.heap.size, 1, none⟩ = some (.int .i64 ay) ∧ w'.cell? ⟨w.heap.size + 1, 0, none⟩ = some (.int .i64 bx) ∧ w'.cell? ⟨w.heap.size + 1, 1, none⟩ = some (.int .i64 by') ∧ w'.cell? ⟨w.heap.size + 1 + 1, 0, none⟩ = some (.int .i64 cx) ∧ w'.cell? ⟨w.heap.size + 1 + 1, 1, none⟩ = some (.int .i64 cy) ∧ w'.cell? ⟨w.heap.size + 1 + 1 + 1, 0, none⟩ = some (.int .i64 dx) ∧ w'.cell? ⟨w.heap.size + 1 + 1 + 1, 1, none⟩ = some (.int .i64 dy))) (by kernel_rfl) ⟨HM.out.c0, HM.out.c1, HM.out.c2, HM.out.c3, HM.out.c4, HM.out.c5, HM.out.c6, HM.out.c7⟩ (fun hHeld => ?_)
            refine wpAnyH_take (i := 0) (oi := { dst := some 78, op := Op.load 23 (Operand.tmp 4), type := 23, pos := "plumbref.go:193", after := #[], guard := none }) (v := (.agg #[.int .i64 ax, .int .i64 ay])) rfl (by kernel_rfl) (by kernel_rfl) (by kernel_rfl) (fun _ _ _ h => h) (Or.inl ⟨by kernel_rfl, by intro w1 hSw; go_simp⟩) (by assumption) ?_
            simp only [Act.put, List.setIfInBounds_toArray, List.set_cons_zero, List.set_cons_succ]
            refine wpAnyH_take (i := 1) (oi := { dst := some 79, op := Op.load 23 (Operand.tmp 5), type := 23, pos := "plumbref.go:193", after := #[], guard := none }) (v := (.agg #[.int .i64 bx, .int .i64 by'])) rfl (by kernel_rfl) (by kernel_rfl) (by kernel_rfl) (fun _ _ _ h => h) (Or.inl ⟨by kernel_rfl, by intro w1 hSw; go_simp⟩) (by assumption) ?_
            simp only [Act.put, List.setIfInBounds_toArray, List.set_cons_zero, List.set_cons_succ]
            refine wpAnyH_take (i := 2) (oi := { dst := some 80, op := Op.load 23 (Operand.tmp 6), type := 23, pos := "plumbref.go:193", after := #[], guard := none }) (v := (.agg #[.int .i64 cx, .int .i64 cy])) rfl (by kernel_rfl) (by kernel_rfl) (by kernel_rfl) (fun _ _ _ h => h) (Or.inl ⟨by kernel_rfl, by intro w1 hSw; go_simp⟩) (by assumption) ?_
            simp only [Act.put, List.setIfInBounds_toArray, List.set_cons_zero, List.set_cons_succ]
            refine wpAnyH_take (i := 4) (oi := { dst := some 82, op := Op.load 23 (Operand.tmp 4), type := 23, pos := "plumbref.go:193", after := #[], guard := none }) (v := (.agg #[.int .i64 ax, .int .i64 ay])) rfl (by kernel_rfl) (by kernel_rfl) (by kernel_rfl) (fun _ _ _ h => h) (Or.inl ⟨by kernel_rfl, by intro w1 hSw; go_simp⟩) (by assumption) ?_
            simp only [Act.put, List.setIfInBounds_toArray, List.set_cons_zero, List.set_cons_succ]
            refine wpAnyH_take (i := 5) (oi := { dst := some 83, op := Op.load 23 (Operand.tmp 5), type := 23, pos := "plumbref.go:193", after := #[], guard := none }) (v := (.agg #[.int .i64 bx, .int .i64 by'])) rfl (by kernel_rfl) (by kernel_rfl) (by kernel_rfl) (fun _ _ _ h => h) (Or.inl ⟨by kernel_rfl, by intro w1 hSw; go_simp⟩) (by assumption) ?_
            simp only [Act.put, List.setIfInBounds_toArray, List.set_cons_zero, List.set_cons_succ]
            refine wpAnyH_take (i := 6) (oi := { dst := some 84, op := Op.load 23 (Operand.tmp 7), type := 23, pos := "plumbref.go:193", after := #[], guard := none }) (v := (.agg #[.int .i64 dx, .int .i64 dy])) rfl (by kernel_rfl) (by kernel_rfl) (by kernel_rfl) (fun _ _ _ h => h) (Or.inl ⟨by kernel_rfl, by intro w1 hSw; go_simp⟩) (by assumption) ?_
            simp only [Act.put, List.setIfInBounds_toArray, List.set_cons_zero, List.set_cons_succ]
            refine wpAnyH_ready (rs := [3]) (by kernel_rfl) (by simp) ?_
            refine AllReadyH.cons (o := { dst := some 81, op := Op.call { callee := Callee.value (Operand.func 13), args := #[Operand.tmp 78, Operand.tmp 79, Operand.tmp 80], argTypes := #[23, 23, 23] }, type := 3, pos := "plumbref.go:193", after := #[{ on := 0, ground := Ground.data }, { on := 1, ground := Ground.data }, { on := 2, ground := Ground.data }], guard := none }) rfl (fun K hK => ?_) AllReadyH.nil
            go_simp
            go_at_call 13
            refine (refSide_any ax ay bx by' cx cy _ HC.out.1.1 HC.out.1.2 HC.out.2.1.1 HC.out.2.1.2 HC.out.2.2.1.1 HC.out.2.2.1.2).mono ?_
            rintro e w' ⟨rfl, H'⟩; replace HB : Hid (New W w') := HB.out.trans' H'.out; replace HM : Hid (M4 w' w.heap.size ax ay bx by' cx cy dx dy) := HM.out.next H'.out
            go_wp2_with fail
            refine hK.out _ _ ⟨HM.out.c0, HM.out.c1, HM.out.c2, HM.out.c3, HM.out.c4, HM.out.c5, HM.out.c6, HM.out.c7⟩ (fun hHeld => ?_)
            clear hK K
            refine wpAnyH_ready (rs := [7]) (by kernel_rfl) (by simp) ?_
            refine AllReadyH.cons (o := { dst := some 85, op := Op.call { callee := Callee.value (Operand.func 13), args := #[Operand.tmp 82, Operand.tmp 83, Operand.tmp 84], argTypes := #[23, 23, 23] }, type := 3, pos := "plumbref.go:193", after := #[{ on := 4, ground := Ground.data }, { on := 5, ground := Ground.data }, { on := 6, ground := Ground.data }, { on := 3, ground := Ground.chain }], guard := none }) rfl (fun K hK => ?_) AllReadyH.nil
            go_simp
            go_at_call 13
            refine (refSide_any ax ay bx by' dx dy _ HC.out.1.1 HC.out.1.2 HC.out.2.1.1 HC.out.2.1.2 HC.out.2.2.2.1 HC.out.2.2.2.2).mono ?_
            rintro e w' ⟨rfl, H'⟩; replace HB : Hid (New W w') := HB.out.trans' H'.out; replace HM : Hid (M4 w' w.heap.size ax ay bx by' cx cy dx dy) := HM.out.next H'.out
            go_wp2_with fail
            refine hK.out _ _ ⟨HM.out.c0, HM.out.c1, HM.out.c2, HM.out.c3, HM.out.c4, HM.out.c5, HM.out.c6, HM.out.c7⟩ (fun hHeld => ?_)
            clear hK K
            refine wpAnyH_take (i := 8) (oi := { dst := some 86, op := Op.binOp BinOp.mul 3 (Operand.tmp 81) (Operand.tmp 85) 3, type := 3, pos := "plumbref.go:193", after := #[{ on := 3, ground := Ground.data }, { on := 7, ground := Ground.data }], guard := none }) (v := (.int .i64 0)) rfl (by kernel_rfl) (by kernel_rfl) (by kernel_rfl) (fun _ _ _ h => h) (Or.inl ⟨by kernel_rfl, by intro w1 hSw; go_simp⟩) (by assumption) ?_
            simp only [Act.put, List.setIfInBounds_toArray, List.set_cons_zero, List.set_cons_succ]
            refine wpAnyH_take (i := 9) (oi := { dst := some 87, op := Op.binOp BinOp.lss 3 (Operand.tmp 86) (Operand.const (Value.int IntKind.i64 0)) 3, type := 4, pos := "plumbref.go:193", after := #[{ on := 8, ground := Ground.data }], guard := none }) (v := (.bool false)) rfl (by kernel_rfl) (by kernel_rfl) (by kernel_rfl) (fun _ _ _ h => h) (Or.inl ⟨by kernel_rfl, by intro w1 hSw; go_simp⟩) (by assumption) ?_
            simp only [Act.put, List.setIfInBounds_toArray, List.set_cons_zero, List.set_cons_succ]
            refine wpAnyH_take (i := 10) (oi := { dst := some 88, op := Op.move (Operand.tmp 87), type := 4, pos := "plumbref.go:193", after := #[{ on := 9, ground := Ground.data }, { on := 7, ground := Ground.chain }], guard := none }) (v := (.bool false)) rfl (by kernel_rfl) (by kernel_rfl) (by kernel_rfl) (fun _ _ _ h => h) (Or.inl ⟨by kernel_rfl, by intro w1 hSw; go_simp⟩) (by assumption) ?_
            simp only [Act.put, List.setIfInBounds_toArray, List.set_cons_zero, List.set_cons_succ]
            refine wpAnyH_take (i := 11) (oi := { dst := some 89, op := Op.load 23 (Operand.tmp 6), type := 23, pos := "plumbref.go:193", after := #[{ on := 10, ground := Ground.guard }], guard := some (10, true) }) (v := undef) rfl (by kernel_rfl) (by kernel_rfl) (by kernel_rfl) (fun _ _ _ h => h) (Or.inr ⟨by kernel_rfl, rfl⟩) (by assumption) ?_
            simp only [Act.put, List.setIfInBounds_toArray, List.set_cons_zero, List.set_cons_succ]
            refine wpAnyH_take (i := 12) (oi := { dst := some 90, op := Op.load 23 (Operand.tmp 7), type := 23, pos := "plumbref.go:193", after := #[{ on := 10, ground := Ground.guard }], guard := some (10, true) }) (v := undef) rfl (by kernel_rfl) (by kernel_rfl) (by kernel_rfl) (fun _ _ _ h => h) (Or.inr ⟨by kernel_rfl, rfl⟩) (by assumption) ?_
            simp only [Act.put, List.setIfInBounds_toArray, List.set_cons_zero, List.set_cons_succ]
            refine wpAnyH_take (i := 13) (oi := { dst := some 91, op := Op.load 23 (Operand.tmp 4), type := 23, pos := "plumbref.go:193", after := #[{ on := 10, ground := Ground.guard }], guard := some (10, true) }) (v := undef) rfl (by kernel_rfl) (by kernel_rfl) (by kernel_rfl) (fun _ _ _ h => h) (Or.inr ⟨by kernel_rfl, rfl⟩) (by assumption) ?_
            simp only [Act.put, List.setIfInBounds_toArray, List.set_cons_zero, List.set_cons_succ]
            refine wpAnyH_take (i := 14) (oi := { dst := some 92, op := Op.call { callee := Callee.value (Operand.func 13), args := #[Operand.tmp 89, Operand.tmp 90, Operand.tmp 91], argTypes := #[23, 23, 23] }, type := 3, pos := "plumbref.go:193", after := #[{ on := 11, ground := Ground.data }, { on := 12, ground := Ground.data }, { on := 13, ground := Ground.data }, { on := 10, ground := Ground.chain }, { on := 10, ground := Ground.guard }], guard := some (10, true) }) (v := undef) rfl (by kernel_rfl) (by kernel_rfl) (by kernel_rfl) (fun _ _ _ h => h) (Or.inr ⟨by kernel_rfl, rfl⟩) (by assumption) ?_
            simp only [Act.put, List.setIfInBounds_toArray, List.set_cons_zero, List.set_cons_succ]
            refine wpAnyH_take (i := 15) (oi := { dst := some 93, op := Op.load 23 (Operand.tmp 6), type := 23, pos := "plumbref.go:193", after := #[{ on := 10, ground := Ground.guard }], guard := some (10, true) }) (v := undef) rfl (by kernel_rfl) (by kernel_rfl) (by kernel_rfl) (fun _ _ _ h => h) (Or.inr ⟨by kernel_rfl, rfl⟩) (by assumption) ?_
            simp only [Act.put, List.setIfInBounds_toArray, List.set_cons_zero, List.set_cons_succ]
            refine wpAnyH_take (i := 16) (oi := { dst := some 94, op := Op.load 23 (Operand.tmp 7), type := 23, pos := "plumbref.go:193", after := #[{ on := 10, ground := Ground.guard }], guard := some (10, true) }) (v := undef) rfl (by kernel_rfl) (by kernel_rfl) (by kernel_rfl) (fun _ _ _ h => h) (Or.inr ⟨by kernel_rfl, rfl⟩) (by assumption) ?_
            simp only [Act.put, List.setIfInBounds_toArray, List.set_cons_zero, List.set_cons_succ]
            refine wpAnyH_take (i := 17) (oi := { dst := some 95, op := Op.load 23 (Operand.tmp 5), type := 23, pos := "plumbref.go:193", after := #[{ on := 10, ground := Ground.guard }], guard := some (10, true) }) (v := undef) rfl (by kernel_rfl) (by kernel_rfl) (by kernel_rfl) (fun _ _ _ h => h) (Or.inr ⟨by kernel_rfl, rfl⟩) (by assumption) ?_
            simp only [Act.put, List.setIfInBounds_toArray, List.set_cons_zero, List.set_cons_succ]
            refine wpAnyH_take (i := 18) (oi := { dst := some 96, op := Op.call { callee := Callee.value (Operand.func 13), args := #[Operand.tmp 93, Operand.tmp 94, Operand.tmp 95], argTypes := #[23, 23, 23] }, type := 3, pos := "plumbref.go:193", after := #[{ on := 15, ground := Ground.data }, { on := 16, ground := Ground.data }, { on := 17, ground := Ground.data }, { on := 14, ground := Ground.chain }, { on := 10, ground := Ground.guard }], guard := some (10, true) }) (v := undef) rfl (by kernel_rfl) (by kernel_rfl) (by kernel_rfl) (fun _ _ _ h => h) (Or.inr ⟨by kernel_rfl, rfl⟩) (by assumption) ?_
            simp only [Act.put, List.setIfInBounds_toArray, List.set_cons_zero, List.set_cons_succ]
            refine wpAnyH_take (i := 19) (oi := { dst := some 97, op := Op.binOp BinOp.mul 3 (Operand.tmp 92) (Operand.tmp 96) 3, type := 3, pos := "plumbref.go:193", after := #[{ on := 14, ground := Ground.data }, { on := 18, ground := Ground.data }, { on := 10, ground := Ground.guard }], guard := some (10, true) }) (v := undef) rfl (by kernel_rfl) (by kernel_rfl) (by kernel_rfl) (fun _ _ _ h => h) (Or.inr ⟨by kernel_rfl, rfl⟩) (by assumption) ?_
            simp only [Act.put, List.setIfInBounds_toArray, List.set_cons_zero, List.set_cons_succ]
            refine wpAnyH_take (i := 20) (oi := { dst := some 98, op := Op.binOp BinOp.lss 3 (Operand.tmp 97) (Operand.const (Value.int IntKind.i64 0)) 3, type := 4, pos := "plumbref.go:193", after := #[{ on := 19, ground := Ground.data }, { on := 10, ground := Ground.guard }], guard := some (10, true) }) (v := undef) rfl (by kernel_rfl) (by kernel_rfl) (by kernel_rfl) (fun _ _ _ h => h) (Or.inr ⟨by kernel_rfl, rfl⟩) (by assumption) ?_
            simp only [Act.put, List.setIfInBounds_toArray, List.set_cons_zero, List.set_cons_succ]
            refine wpAnyH_take (i := 21) (oi := { dst := some 99, op := Op.pick (Operand.tmp 88) (Operand.tmp 98) (Operand.const (Value.bool false)), type := 4, pos := "plumbref.go:193", after := #[{ on := 10, ground := Ground.data }, { on := 20, ground := Ground.data }], guard := none }) (v := (.bool false)) rfl (by kernel_rfl) (by kernel_rfl) (by kernel_rfl) (fun _ _ _ h => h) (Or.inl ⟨by kernel_rfl, by intro w1 hSw; go_simp⟩) (by assumption) ?_
            simp only [Act.put, List.setIfInBounds_toArray, List.set_cons_zero, List.set_cons_succ]
            refine wpAnyH_done (by kernel_rfl) ?_ _
            clear H' c0 c1 c2 c3 c4 c5 c6 c7
            go_wp2_with fail
            go_ret
            exact ⟨by rw [HV.out]; rfl, HW.out.trans' HB.out⟩
          · go_wp2_with fail
            replace HM : Hid (M4 wr.drew w.heap.size ax ay bx by' cx cy dx dy) := HM.out.next ((New.refl wr).drewN 1)
            replace HB : Hid (New W wr.drew) := HB.out.drewN 1
            refine wp_region_held_drew (S := (fun w' => w'.cell? ⟨w.heap.size, 0, none⟩ = some (.int .i64 ax) ∧ w'.cell? ⟨w.heap.size, 1, none⟩ = some (.int .i64 ay) ∧ w'.cell? ⟨w.heap.size + 1, 0, none⟩ = some (.int .i64 bx) ∧ w'.cell? ⟨w.heap.size + 1, 1, none⟩ = some (.int .i64 by') ∧ w'.cell? ⟨w.heap.size + 1 + 1, 0, none⟩ = some (.int .i64 cx) ∧ w'.cell? ⟨w.heap.size + 1 + 1, 1, none⟩ = some (.int .i64 cy) ∧ w'.cell? ⟨w.heap.size + 1 + 1 + 1, 0, none⟩ = some (.int .i64 dx) ∧ w'.cell? ⟨w.heap.size + 1 + 1 + 1, 1, none⟩ = some (.int .i64 dy))) (by kernel_rfl) ⟨HM.out.c0, HM.out.c1, HM.out.c2, HM.out.c3, HM.out.c4, HM.out.c5, HM.out.c6, HM.out.c7⟩ (fun hHeld => ?_)
            refine wpAnyH_take (i := 0) (oi := { dst := some 78, op := Op.load 23 (Operand.tmp 4), type := 23, pos := "plumbref.go:193", after := #[], guard := none }) (v := (.agg #[.int .i64 ax, .int .i64 ay])) rfl (by kernel_rfl) (by kernel_rfl) (by kernel_rfl) (fun _ _ _ h => h) (Or.inl ⟨by kernel_rfl, by intro w1 hSw; go_simp⟩) (by assumption) ?_
            simp only [Act.put, List.setIfInBounds_toArray, List.set_cons_zero, List.set_cons_succ]
            refine wpAnyH_take (i := 1) (oi := { dst := some 79, op := Op.load 23 (Operand.tmp 5), type := 23, pos := "plumbref.go:193", after := #[], guard := none }) (v := (.agg #[.int .i64 bx, .int .i64 by'])) rfl (by kernel_rfl) (by kernel_rfl) (by kernel_rfl) (fun _ _ _ h => h) (Or.inl ⟨by kernel_rfl, by intro w1 hSw; go_simp⟩) (by assumption) ?_
            simp only [Act.put, List.setIfInBounds_toArray, List.set_cons_zero, List.set_cons_succ]
            refine wpAnyH_take (i := 2) (oi := { dst := some 80, op := Op.load 23 (Operand.tmp 6), type := 23, pos := "plumbref.go:193", after := #[], guard := none }) (v := (.agg #[.int .i64 cx, .int .i64 cy])) rfl (by kernel_rfl) (by kernel_rfl) (by kernel_rfl) (fun _ _ _ h => h) (Or.inl ⟨by kernel_rfl, by intro w1 hSw; go_simp⟩) (by assumption) ?_
            simp only [Act.put, List.setIfInBounds_toArray, List.set_cons_zero, List.set_cons_succ]
            refine wpAnyH_take (i := 4) (oi := { dst := some 82, op := Op.load 23 (Operand.tmp 4), type := 23, pos := "plumbref.go:193", after := #[], guard := none }) (v := (.agg #[.int .i64 ax, .int .i64 ay])) rfl (by kernel_rfl) (by kernel_rfl) (by kernel_rfl) (fun _ _ _ h => h) (Or.inl ⟨by kernel_rfl, by intro w1 hSw; go_simp⟩) (by assumption) ?_
            simp only [Act.put, List.setIfInBounds_toArray, List.set_cons_zero, List.set_cons_succ]
            refine wpAnyH_take (i := 5) (oi := { dst := some 83, op := Op.load 23 (Operand.tmp 5), type := 23, pos := "plumbref.go:193", after := #[], guard := none }) (v := (.agg #[.int .i64 bx, .int .i64 by'])) rfl (by kernel_rfl) (by kernel_rfl) (by kernel_rfl) (fun _ _ _ h => h) (Or.inl ⟨by kernel_rfl, by intro w1 hSw; go_simp⟩) (by assumption) ?_
            simp only [Act.put, List.setIfInBounds_toArray, List.set_cons_zero, List.set_cons_succ]
            refine wpAnyH_take (i := 6) (oi := { dst := some 84, op := Op.load 23 (Operand.tmp 7), type := 23, pos := "plumbref.go:193", after := #[], guard := none }) (v := (.agg #[.int .i64 dx, .int .i64 dy])) rfl (by kernel_rfl) (by kernel_rfl) (by kernel_rfl) (fun _ _ _ h => h) (Or.inl ⟨by kernel_rfl, by intro w1 hSw; go_simp⟩) (by assumption) ?_
            simp only [Act.put, List.setIfInBounds_toArray, List.set_cons_zero, List.set_cons_succ]
            refine wpAnyH_ready (rs := [3]) (by kernel_rfl) (by simp) ?_
            refine AllReadyH.cons (o := { dst := some 81, op := Op.call { callee := Callee.value (Operand.func 13), args := #[Operand.tmp 78, Operand.tmp 79, Operand.tmp 80], argTypes := #[23, 23, 23] }, type := 3, pos := "plumbref.go:193", after := #[{ on := 0, ground := Ground.data }, { on := 1, ground := Ground.data }, { on := 2, ground := Ground.data }], guard := none }) rfl (fun K hK => ?_) AllReadyH.nil
            go_simp
            go_at_call 13
            refine (refSide_any ax ay bx by' cx cy _ HC.out.1.1 HC.out.1.2 HC.out.2.1.1 HC.out.2.1.2 HC.out.2.2.1.1 HC.out.2.2.1.2).mono ?_
            rintro e w' ⟨rfl, H'⟩; replace HB : Hid (New W w') := HB.out.trans' H'.out; replace HM : Hid (M4 w' w.heap.size ax ay bx by' cx cy dx dy) := HM.out.next H'.out
            go_wp2_with fail
            refine hK.out _ _ ⟨HM.out.c0, HM.out.c1, HM.out.c2, HM.out.c3, HM.out.c4, HM.out.c5, HM.out.c6, HM.out.c7⟩ (fun hHeld => ?_)
            clear hK K
            refine wpAnyH_ready (rs := [7]) (by kernel_rfl) (by simp) ?_
            refine AllReadyH.cons (o := { dst := some 85, op := Op.call { callee := Callee.value (Operand.func 13), args := #[Operand.tmp 82, Operand.tmp 83, Operand.tmp 84], argTypes := #[23, 23, 23] }, type := 3, pos := "plumbref.go:193", after := #[{ on := 4, ground := Ground.data }, { on := 5, ground := Ground.data }, { on := 6, ground := Ground.data }, { on := 3, ground := Ground.chain }], guard := none }) rfl (fun K hK => ?_) AllReadyH.nil
            go_simp
            go_at_call 13
            refine (refSide_any ax ay bx by' dx dy _ HC.out.1.1 HC.out.1.2 HC.out.2.1.1 HC.out.2.1.2 HC.out.2.2.2.1 HC.out.2.2.2.2).mono ?_
            rintro e w' ⟨rfl, H'⟩; replace HB : Hid (New W w') := HB.out.trans' H'.out; replace HM : Hid (M4 w' w.heap.size ax ay bx by' cx cy dx dy) := HM.out.next H'.out
            go_wp2_with fail
            refine hK.out _ _ ⟨HM.out.c0, HM.out.c1, HM.out.c2, HM.out.c3, HM.out.c4, HM.out.c5, HM.out.c6, HM.out.c7⟩ (fun hHeld => ?_)
            clear hK K
            refine wpAnyH_take (i := 8) (oi := { dst := some 86, op := Op.binOp BinOp.mul 3 (Operand.tmp 81) (Operand.tmp 85) 3, type := 3, pos := "plumbref.go:193", after := #[{ on := 3, ground := Ground.data }, { on := 7, ground := Ground.data }], guard := none }) (v := (.int .i64 1)) rfl (by kernel_rfl) (by kernel_rfl) (by kernel_rfl) (fun _ _ _ h => h) (Or.inl ⟨by kernel_rfl, by intro w1 hSw; go_simp⟩) (by assumption) ?_
            simp only [Act.put, List.setIfInBounds_toArray, List.set_cons_zero, List.set_cons_succ]
            refine wpAnyH_take (i := 9) (oi := { dst := some 87, op := Op.binOp BinOp.lss 3 (Operand.tmp 86) (Operand.const (Value.int IntKind.i64 0)) 3, type := 4, pos := "plumbref.go:193", after := #[{ on := 8, ground := Ground.data }], guard := none }) (v := (.bool false)) rfl (by kernel_rfl) (by kernel_rfl) (by kernel_rfl) (fun _ _ _ h => h) (Or.inl ⟨by kernel_rfl, by intro w1 hSw; go_simp⟩) (by assumption) ?_
            simp only [Act.put, List.setIfInBounds_toArray, List.set_cons_zero, List.set_cons_succ]
            refine wpAnyH_take (i := 10) (oi := { dst := some 88, op := Op.move (Operand.tmp 87), type := 4, pos := "plumbref.go:193", after := #[{ on := 9, ground := Ground.data }, { on := 7, ground := Ground.chain }], guard := none }) (v := (.bool false)) rfl (by kernel_rfl) (by kernel_rfl) (by kernel_rfl) (fun _ _ _ h => h) (Or.inl ⟨by kernel_rfl, by intro w1 hSw; go_simp⟩) (by assumption) ?_
            simp only [Act.put, List.setIfInBounds_toArray, List.set_cons_zero, List.set_cons_succ]
            refine wpAnyH_take (i := 11) (oi := { dst := some 89, op := Op.load 23 (Operand.tmp 6), type := 23, pos := "plumbref.go:193", after := #[{ on := 10, ground := Ground.guard }], guard := some (10, true) }) (v := undef) rfl (by kernel_rfl) (by kernel_rfl) (by kernel_rfl) (fun _ _ _ h => h) (Or.inr ⟨by kernel_rfl, rfl⟩) (by assumption) ?_
            simp only [Act.put, List.setIfInBounds_toArray, List.set_cons_zero, List.set_cons_succ]
            refine wpAnyH_take (i := 12) (oi := { dst := some 90, op := Op.load 23 (Operand.tmp 7), type := 23, pos := "plumbref.go:193", after := #[{ on := 10, ground := Ground.guard }], guard := some (10, true) }) (v := undef) rfl (by kernel_rfl) (by kernel_rfl) (by kernel_rfl) (fun _ _ _ h => h) (Or.inr ⟨by kernel_rfl, rfl⟩) (by assumption) ?_
            simp only [Act.put, List.setIfInBounds_toArray, List.set_cons_zero, List.set_cons_succ]
            refine wpAnyH_take (i := 13) (oi := { dst := some 91, op := Op.load 23 (Operand.tmp 4), type := 23, pos := "plumbref.go:193", after := #[{ on := 10, ground := Ground.guard }], guard := some (10, true) }) (v := undef) rfl (by kernel_rfl) (by kernel_rfl) (by kernel_rfl) (fun _ _ _ h => h) (Or.inr ⟨by kernel_rfl, rfl⟩) (by assumption) ?_
            simp only [Act.put, List.setIfInBounds_toArray, List.set_cons_zero, List.set_cons_succ]
            refine wpAnyH_take (i := 14) (oi := { dst := some 92, op := Op.call { callee := Callee.value (Operand.func 13), args := #[Operand.tmp 89, Operand.tmp 90, Operand.tmp 91], argTypes := #[23, 23, 23] }, type := 3, pos := "plumbref.go:193", after := #[{ on := 11, ground := Ground.data }, { on := 12, ground := Ground.data }, { on := 13, ground := Ground.data }, { on := 10, ground := Ground.chain }, { on := 10, ground := Ground.guard }], guard := some (10, true) }) (v := undef) rfl (by kernel_rfl) (by kernel_rfl) (by kernel_rfl) (fun _ _ _ h => h) (Or.inr ⟨by kernel_rfl, rfl⟩) (by assumption) ?_
            simp only [Act.put, List.setIfInBounds_toArray, List.set_cons_zero, List.set_cons_succ]
            refine wpAnyH_take (i := 15) (oi := { dst := some 93, op := Op.load 23 (Operand.tmp 6), type := 23, pos := "plumbref.go:193", after := #[{ on := 10, ground := Ground.guard }], guard := some (10, true) }) (v := undef) rfl (by kernel_rfl) (by kernel_rfl) (by kernel_rfl) (fun _ _ _ h => h) (Or.inr ⟨by kernel_rfl, rfl⟩) (by assumption) ?_
            simp only [Act.put, List.setIfInBounds_toArray, List.set_cons_zero, List.set_cons_succ]
            refine wpAnyH_take (i := 16) (oi := { dst := some 94, op := Op.load 23 (Operand.tmp 7), type := 23, pos := "plumbref.go:193", after := #[{ on := 10, ground := Ground.guard }], guard := some (10, true) }) (v := undef) rfl (by kernel_rfl) (by kernel_rfl) (by kernel_rfl) (fun _ _ _ h => h) (Or.inr ⟨by kernel_rfl, rfl⟩) (by assumption) ?_
            simp only [Act.put, List.setIfInBounds_toArray, List.set_cons_zero, List.set_cons_succ]
            refine wpAnyH_take (i := 17) (oi := { dst := some 95, op := Op.load 23 (Operand.tmp 5), type := 23, pos := "plumbref.go:193", after := #[{ on := 10, ground := Ground.guard }], guard := some (10, true) }) (v := undef) rfl (by kernel_rfl) (by kernel_rfl) (by kernel_rfl) (fun _ _ _ h => h) (Or.inr ⟨by kernel_rfl, rfl⟩) (by assumption) ?_
            simp only [Act.put, List.setIfInBounds_toArray, List.set_cons_zero, List.set_cons_succ]
            refine wpAnyH_take (i := 18) (oi := { dst := some 96, op := Op.call { callee := Callee.value (Operand.func 13), args := #[Operand.tmp 93, Operand.tmp 94, Operand.tmp 95], argTypes := #[23, 23, 23] }, type := 3, pos := "plumbref.go:193", after := #[{ on := 15, ground := Ground.data }, { on := 16, ground := Ground.data }, { on := 17, ground := Ground.data }, { on := 14, ground := Ground.chain }, { on := 10, ground := Ground.guard }], guard := some (10, true) }) (v := undef) rfl (by kernel_rfl) (by kernel_rfl) (by kernel_rfl) (fun _ _ _ h => h) (Or.inr ⟨by kernel_rfl, rfl⟩) (by assumption) ?_
            simp only [Act.put, List.setIfInBounds_toArray, List.set_cons_zero, List.set_cons_succ]
            refine wpAnyH_take (i := 19) (oi := { dst := some 97, op := Op.binOp BinOp.mul 3 (Operand.tmp 92) (Operand.tmp 96) 3, type := 3, pos := "plumbref.go:193", after := #[{ on := 14, ground := Ground.data }, { on := 18, ground := Ground.data }, { on := 10, ground := Ground.guard }], guard := some (10, true) }) (v := undef) rfl (by kernel_rfl) (by kernel_rfl) (by kernel_rfl) (fun _ _ _ h => h) (Or.inr ⟨by kernel_rfl, rfl⟩) (by assumption) ?_
            simp only [Act.put, List.setIfInBounds_toArray, List.set_cons_zero, List.set_cons_succ]
            refine wpAnyH_take (i := 20) (oi := { dst := some 98, op := Op.binOp BinOp.lss 3 (Operand.tmp 97) (Operand.const (Value.int IntKind.i64 0)) 3, type := 4, pos := "plumbref.go:193", after := #[{ on := 19, ground := Ground.data }, { on := 10, ground := Ground.guard }], guard := some (10, true) }) (v := undef) rfl (by kernel_rfl) (by kernel_rfl) (by kernel_rfl) (fun _ _ _ h => h) (Or.inr ⟨by kernel_rfl, rfl⟩) (by assumption) ?_
            simp only [Act.put, List.setIfInBounds_toArray, List.set_cons_zero, List.set_cons_succ]
            refine wpAnyH_take (i := 21) (oi := { dst := some 99, op := Op.pick (Operand.tmp 88) (Operand.tmp 98) (Operand.const (Value.bool false)), type := 4, pos := "plumbref.go:193", after := #[{ on := 10, ground := Ground.data }, { on := 20, ground := Ground.data }], guard := none }) (v := (.bool false)) rfl (by kernel_rfl) (by kernel_rfl) (by kernel_rfl) (fun _ _ _ h => h) (Or.inl ⟨by kernel_rfl, by intro w1 hSw; go_simp⟩) (by assumption) ?_
            simp only [Act.put, List.setIfInBounds_toArray, List.set_cons_zero, List.set_cons_succ]
            refine wpAnyH_done (by kernel_rfl) ?_ _
            clear H' c0 c1 c2 c3 c4 c5 c6 c7
            go_wp2_with fail
            go_ret
            exact ⟨by rw [HV.out]; rfl, HW.out.trans' HB.out⟩

end Go.Proofs.Ytgeoffpcmkofkaa
