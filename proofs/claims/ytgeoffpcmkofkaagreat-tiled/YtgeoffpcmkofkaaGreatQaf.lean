/- Ym; Xd; Xe; Yo; Lis; Del: texts laid into one. -/
import Derived.Test.YtgeoffpcmkofkaaGreatQae
import Derived.Deep.RegionHeld3
import Derived.Deep.AppendLies
import Derived.Deep.DrawnRows
import Derived.Laws.CopyOwn
import Derived.Test.YtgeoffpcmkofkaaGreatRows
import Derived.Deep.SlicePairs
import Derived.ProofKit
import Derived.OpenShut
import Derived.Lib.SmallJoins
import Derived.SizedLaws
import Derived.Carry
import Derived.Test.YtgeoffpcmkofkaaGreatQac
/- The walks of 'checkList' and 'Within' of package plumb. -/
namespace Go.Proofs.YtgeoffpcmkofkaaGreat
open Go.RowKit Fl
set_option maxRecDepth 100000


def ptAt (l : Pts) (i : Nat) : Pt := l.getD i (0, 0)
theorem ptAt_eq {l : Pts} {i : Nat} (h : i < l.length) : ptAt l i = l[i] := by simp [ptAt, h]
theorem ptAt_cd {l : Pts} (h : okB l = true) {i : Nat} (hi : i < l.length) : CdP (ptAt l i) := by
  rw [ptAt_eq hi]; exact okB_cd h (List.getElem_mem hi)

def PolyAt (w : World) (ao : Option Addr) (l : Pts) : Prop := 0 < l.length → ∃ g off, ao = some ⟨g, off, none⟩ ∧ PtsAt w g off l ∧ g < w.heap.size
theorem PolyAt.kept {w w' : World} {ao : Option Addr} {l : Pts} (h : PolyAt w ao l) (H : New w w') : PolyAt w' ao l := fun h0 => by
  obtain ⟨g, off, e, h1, h2⟩ := h h0
  exact ⟨g, off, e, h1.kept h2 H, Nat.lt_of_lt_of_le h2 H.size⟩

set_option maxHeartbeats 800000 in
theorem checkPoints_none (ao : Option Addr) (cap : Nat) (w : World) :
    Calls Tryz.prog 23 #[.slice ao 0 cap] w fun e w' => e = .returned (.int .i64 (okE [])) ∧ Hid (New w w') := by
  go_enter Tryz.func23, Tryz.ntmps23
  go_wp2_with fail
  go_loop [7] (fun iv => iv = .int .i64 0) (fun _ => 0)
  case atStart => rfl
  case round =>
    subst hrel
    go_wp2_with fail
    go_ret
    exact ⟨rfl, New.refl _⟩

theorem checkPoints_poly (ao : Option Addr) (cap : Nat) (l : Pts) (w : World) (h : PolyAt w ao l) (hc : l.length ≤ cap) (hs : cap ≤ 100000000000000) :
    Calls Tryz.prog 23 #[.slice ao l.length cap] w fun e w' => e = .returned (.int .i64 (okE l)) ∧ Hid (New w w') := by
  match l, h, hc with
  | [], _, _ => exact checkPoints_none ao cap w
  | q :: l, h, hc =>
    obtain ⟨g, off, rfl, h1, h2⟩ := h (by simp)
    exact checkPoints_any g off cap (q :: l) w h1 h2 hc hs

def errL (l : Pts) : Int := if 40 < l.length then 2 else okE l

set_option maxHeartbeats 800000 in
theorem checkList_any (ao : Option Addr) (cap : Nat) (l : Pts) (w : World) (h : PolyAt w ao l) (hc : l.length ≤ cap) (hs : cap ≤ 100000000000000) :
    Calls Tryz.prog 18 #[.slice ao l.length cap] w fun e w' => e = .returned (.int .i64 (errL l)) ∧ Hid (New w w') := by
  by_cases h40 : 40 < l.length
  · have HE : Hid (errL l = 2) := by rw [Hid, errL, if_pos h40]
    go_enter Tryz.func18, Tryz.ntmps18
    go_wp2_with fail
    go_ret
    exact ⟨by rw [HE.out]; rfl, New.refl _⟩
  · have HE : Hid (errL l = okE l) := by rw [Hid, errL, if_neg h40]
    have HP : Hid (PolyAt w ao l) := h
    clear h
    go_enter Tryz.func18, Tryz.ntmps18
    go_wp2_with fail
    refine (checkPoints_poly ao cap l _ HP.out hc hs).mono ?_
    rintro e w1 ⟨rfl, H1⟩
    go_wp2_with fail
    go_ret
    exact ⟨by rw [HE.out]; rfl, H1⟩


theorem errL_vals (l : Pts) : errL l = 0 ∨ errL l = 1 ∨ errL l = 2 := by
  unfold errL okE
  split
  · exact Or.inr (Or.inr rfl)
  · split
    · exact Or.inl rfl
    · exact Or.inr (Or.inl rfl)
theorem okE_vals (l : Pts) : (okE l = 0 ∧ okB l = true) ∨ (okE l = 1 ∧ okB l = false) := by
  unfold okE
  cases okB l
  · exact Or.inr ⟨rfl, rfl⟩
  · exact Or.inl ⟨rfl, rfl⟩
theorem errL_ok {l : Pts} (h : errL l = 0) : l.length ≤ 40 ∧ okB l = true := by
  unfold errL at h
  by_cases h40 : 40 < l.length
  · rw [if_pos h40] at h; omega
  · rw [if_neg h40] at h
    rcases okE_vals l with h1 | h1
    · exact ⟨by omega, h1.2⟩
    · omega


end Go.Proofs.YtgeoffpcmkofkaaGreat
/- The walk of plumbkeep's 'sure'. -/
namespace Go.Proofs.YtgeoffpcmkofkaaGreat
open Go.RowKit Fl
set_option maxRecDepth 100000

theorem sure_1 (w : World) : Calls Tryz.prog 14 #[.agg #[.int .i64 0, .int .i64 0], .agg #[.int .i64 9007199254740992, .int .i64 9007199254740991], .agg #[.int .i64 9007199254740991, .int .i64 9007199254740990]] w fun e w' => e = .returned (.tuple #[.int .i64 (-1), .int .i64 0]) ∧ Hid (New w w') :=
  side_ok 0 0 9007199254740992 9007199254740991 9007199254740991 9007199254740990 w (by decide)
theorem sure_2 (w : World) : Calls Tryz.prog 14 #[.agg #[.int .i64 0, .int .i64 0], .agg #[.int .i64 4, .int .i64 0], .agg #[.int .i64 2, .int .i64 3]] w fun e w' => e = .returned (.tuple #[.int .i64 1, .int .i64 0]) ∧ Hid (New w w') :=
  side_ok 0 0 4 0 2 3 w (by decide)
theorem sure_3 (w : World) : Calls Tryz.prog 15 #[.agg #[.int .i64 (-9007199254740992), .int .i64 0], .agg #[.int .i64 9007199254740992, .int .i64 0], .agg #[.int .i64 0, .int .i64 9007199254740992], .agg #[.int .i64 1, .int .i64 (-9007199254740992)]] w fun e w' => e = .returned (.tuple #[.int .i64 (-1), .int .i64 0]) ∧ Hid (New w w') :=
  circle_ok (-9007199254740992) 0 9007199254740992 0 0 9007199254740992 1 (-9007199254740992) w (by decide)
theorem sure_4 (w : World) : Calls Tryz.prog 15 #[.agg #[.int .i64 0, .int .i64 0], .agg #[.int .i64 4, .int .i64 0], .agg #[.int .i64 0, .int .i64 4], .agg #[.int .i64 1, .int .i64 1]] w fun e w' => e = .returned (.tuple #[.int .i64 1, .int .i64 0]) ∧ Hid (New w w') :=
  circle_ok 0 0 4 0 0 4 1 1 w (by decide)
theorem sure_5 (w : World) : Calls Tryz.prog 15 #[.agg #[.int .i64 (-9007199254740992), .int .i64 0], .agg #[.int .i64 9007199254740992, .int .i64 0], .agg #[.int .i64 0, .int .i64 9007199254740992], .agg #[.int .i64 0, .int .i64 (-9007199254740992)]] w fun e w' => e = .returned (.tuple #[.int .i64 0, .int .i64 0]) ∧ Hid (New w w') :=
  circle_ok (-9007199254740992) 0 9007199254740992 0 0 9007199254740992 0 (-9007199254740992) w (by decide)

set_option maxHeartbeats 1600000 in
theorem sure_any (w : World) : Calls Tryz.prog 5 #[] w fun e w' => e = .returned (.bool true) ∧ Hid (New w w') := by
  have HN : Hid (New w w) := New.refl w
  go_enter Tryz.func5, Tryz.ntmps5
  go_wp2_with fail
  refine (at_any 0 0 _).mono ?_
  rintro e w1 ⟨rfl, H1⟩
  replace HN : Hid (New w w1) := HN.out.trans' H1.out
  clear H1
  go_wp2_with fail
  refine (at_any 9007199254740992 9007199254740991 _).mono ?_
  rintro e w1 ⟨rfl, H1⟩
  replace HN : Hid (New w w1) := HN.out.trans' H1.out
  clear H1
  go_wp2_with fail
  refine (at_any 9007199254740991 9007199254740990 _).mono ?_
  rintro e w1 ⟨rfl, H1⟩
  replace HN : Hid (New w w1) := HN.out.trans' H1.out
  clear H1
  go_wp2_with fail
  refine (sure_1 _).mono ?_
  rintro e w1 ⟨rfl, H1⟩
  replace HN : Hid (New w w1) := HN.out.trans' H1.out
  clear H1
  go_wp2_with fail
  refine (at_any 0 0 _).mono ?_
  rintro e w1 ⟨rfl, H1⟩
  replace HN : Hid (New w w1) := HN.out.trans' H1.out
  clear H1
  go_wp2_with fail
  refine (at_any 4 0 _).mono ?_
  rintro e w1 ⟨rfl, H1⟩
  replace HN : Hid (New w w1) := HN.out.trans' H1.out
  clear H1
  go_wp2_with fail
  refine (at_any 2 3 _).mono ?_
  rintro e w1 ⟨rfl, H1⟩
  replace HN : Hid (New w w1) := HN.out.trans' H1.out
  clear H1
  go_wp2_with fail
  refine (sure_2 _).mono ?_
  rintro e w1 ⟨rfl, H1⟩
  replace HN : Hid (New w w1) := HN.out.trans' H1.out
  clear H1
  go_wp2_with fail
  refine (at_any (-9007199254740992) 0 _).mono ?_
  rintro e w1 ⟨rfl, H1⟩
  replace HN : Hid (New w w1) := HN.out.trans' H1.out
  clear H1
  go_wp2_with fail
  refine (at_any 9007199254740992 0 _).mono ?_
  rintro e w1 ⟨rfl, H1⟩
  replace HN : Hid (New w w1) := HN.out.trans' H1.out
  clear H1
  go_wp2_with fail
  refine (at_any 0 9007199254740992 _).mono ?_
  rintro e w1 ⟨rfl, H1⟩
  replace HN : Hid (New w w1) := HN.out.trans' H1.out
  clear H1
  go_wp2_with fail
  refine (at_any 1 (-9007199254740992) _).mono ?_
  rintro e w1 ⟨rfl, H1⟩
  replace HN : Hid (New w w1) := HN.out.trans' H1.out
  clear H1
  go_wp2_with fail
  refine (sure_3 _).mono ?_
  rintro e w1 ⟨rfl, H1⟩
  replace HN : Hid (New w w1) := HN.out.trans' H1.out
  clear H1
  go_wp2_with fail
  refine (at_any 0 0 _).mono ?_
  rintro e w1 ⟨rfl, H1⟩
  replace HN : Hid (New w w1) := HN.out.trans' H1.out
  clear H1
  go_wp2_with fail
  refine (at_any 4 0 _).mono ?_
  rintro e w1 ⟨rfl, H1⟩
  replace HN : Hid (New w w1) := HN.out.trans' H1.out
  clear H1
  go_wp2_with fail
  refine (at_any 0 4 _).mono ?_
  rintro e w1 ⟨rfl, H1⟩
  replace HN : Hid (New w w1) := HN.out.trans' H1.out
  clear H1
  go_wp2_with fail
  refine (at_any 1 1 _).mono ?_
  rintro e w1 ⟨rfl, H1⟩
  replace HN : Hid (New w w1) := HN.out.trans' H1.out
  clear H1
  go_wp2_with fail
  refine (sure_4 _).mono ?_
  rintro e w1 ⟨rfl, H1⟩
  replace HN : Hid (New w w1) := HN.out.trans' H1.out
  clear H1
  go_wp2_with fail
  refine (at_any (-9007199254740992) 0 _).mono ?_
  rintro e w1 ⟨rfl, H1⟩
  replace HN : Hid (New w w1) := HN.out.trans' H1.out
  clear H1
  go_wp2_with fail
  refine (at_any 9007199254740992 0 _).mono ?_
  rintro e w1 ⟨rfl, H1⟩
  replace HN : Hid (New w w1) := HN.out.trans' H1.out
  clear H1
  go_wp2_with fail
  refine (at_any 0 9007199254740992 _).mono ?_
  rintro e w1 ⟨rfl, H1⟩
  replace HN : Hid (New w w1) := HN.out.trans' H1.out
  clear H1
  go_wp2_with fail
  refine (at_any 0 (-9007199254740992) _).mono ?_
  rintro e w1 ⟨rfl, H1⟩
  replace HN : Hid (New w w1) := HN.out.trans' H1.out
  clear H1
  go_wp2_with fail
  refine (sure_5 _).mono ?_
  rintro e w1 ⟨rfl, H1⟩
  replace HN : Hid (New w w1) := HN.out.trans' H1.out
  clear H1
  go_wp2_with fail
  refine (near_yes (-1) _).mono ?_
  rintro e w1 ⟨rfl, rfl⟩
  go_wp2_with fail
  refine (near_yes 1 _).mono ?_
  rintro e w1 ⟨rfl, rfl⟩
  go_wp2_with fail
  refine (near_yes (-1) _).mono ?_
  rintro e w1 ⟨rfl, rfl⟩
  go_wp2_with fail
  refine (near_yes 1 _).mono ?_
  rintro e w1 ⟨rfl, rfl⟩
  go_wp2_with fail
  refine (near_yes 0 _).mono ?_
  rintro e w1 ⟨rfl, rfl⟩
  go_wp2_with fail
  go_ret
  exact ⟨rfl, HN.out⟩

end Go.Proofs.YtgeoffpcmkofkaaGreat
/- The walk of plumbkeep's 'fits'. -/
namespace Go.Proofs.YtgeoffpcmkofkaaGreat
open Go.RowKit Fl
set_option maxRecDepth 100000
attribute [local go_sem ↓] Go.wp_at_zero Go.wp_at_succ

theorem Tryz.info36 : (Tryz.prog.info? 36).map (fun i => (i.zero, i.size, i.bytes)) = some (some (.agg #[.int .i64 0, .int .i64 0]), 2, 16) := by kernel_rfl

/-- Points as cells. -/
def flatP : Pts → List Value
  | [] => []
  | p :: l => .int .i64 p.1 :: .int .i64 p.2 :: flatP l
theorem flatP_append (a b : Pts) : flatP (a ++ b) = flatP a ++ flatP b := by
  induction a with
  | nil => rfl
  | cons p l ih => simp [flatP, ih]

/-- Its numbers are numbers of 64 bits. -/
def In64 (l : Pts) : Prop := ∀ p ∈ l, (-9223372036854775808 ≤ p.1 ∧ p.1 < 9223372036854775808) ∧ (-9223372036854775808 ≤ p.2 ∧ p.2 < 9223372036854775808)

theorem own_ne {W : World} {base e size n : Nat} {v : Value} {xs : List Value} (h : W.ownsRow base e size v n xs) {g : Nat} (hg : g < base) : some g ≠ v.ownBlock := by
  rcases h.2 with ⟨rfl, _⟩ | ⟨g', cap, cur, rfl, hb, _⟩
  · simp [Value.ownBlock]
  · simp [Value.ownBlock]; omega

/-- The points that were gathered. -/
structure Got (w wr : World) (v : Value) (k : Nat) (out : Pts) : Prop where
  new : New w wr
  ok : okB out = true
  len : out.length = k
  own : wr.ownsRow w.heap.size 36 2 v k (flatP out)

theorem New.drew1 {w w1 : World} (h : New w w1) : New w w1.drew := ⟨h.os, h.tape, h.output, h.size, h.block⟩

theorem Got.next {w wr w1 w2 : World} {v : Value} {k gg cap : Nat} {out : Pts} {r1 r2 : Int} (h : Got w wr v k out) (c1 : Cd r1) (c2 : Cd r2) (H1 : New wr.drew w1) (b : Obj)
    (hown : w2.ownsRow w.heap.size 36 2 (.slice (some ⟨gg, 0, none⟩) (k + 1) cap) (k + 1) (flatP out ++ [.int .i64 r1, .int .i64 r2])) (hgrow : (w1.alloc b).grownBy w2 v.ownBlock) :
    Got w w2 (.slice (some ⟨gg, 0, none⟩) (k + 1) cap) (k + 1) (out ++ [(r1, r2)]) := by
  have hn : New w (w1.alloc b) := (h.new.drew1.trans' H1).alloc' b
  refine ⟨hn.trans hgrow fun g e => ?_, ?_, by simp [h.len], by rw [flatP_append]; exact hown⟩
  · rcases Nat.lt_or_ge g w.heap.size with h1 | h1
    · exact absurd e.symm (own_ne h.own h1)
    · exact h1
  · have := h.ok
    unfold okB at this ⊢
    rw [List.all_append, this]
    simp [cdB_iff.2 c1, cdB_iff.2 c2]

set_option maxRecDepth 100000 in
set_option maxHeartbeats 1600000 in
theorem fits_some (g off cap : Nat) (l : Pts) (w : World) (h : PtsAt w g off l) (hg : g < w.heap.size) (_hc : l.length ≤ cap) (_hs : cap ≤ 100000000000000) (hin : In64 l) :
    Calls Tryz.prog 6 #[.slice (some ⟨g, off, none⟩) l.length cap] w fun e w' => ∃ (v : Value) (out : Pts), e = .returned v ∧ Hid (Got w w' v (min l.length 40) out) := by
  obtain ⟨i0, hi0, hz0, hz1, hz2⟩ := info_parts Tryz.info36
  go_enter Tryz.func6, Tryz.ntmps6
  go_wp2_with fail
  go_loopw [3, 4] (fun v i wr => ∃ (k : Nat) (out : Pts), i = .int .i64 k ∧ k ≤ l.length ∧ k ≤ 40 ∧ Hid (Got w wr v k out))
    (fun _ i _ => l.length - (intOf i).toNat)
  case atStart => exact ⟨0, [], rfl, Nat.zero_le _, Nat.zero_le _, ⟨New.refl _, rfl, rfl, World.ownsRow_nil _ _ _ _⟩⟩
  case round =>
    obtain ⟨k, out, rfl, hle, hle40, H⟩ := hrel
    by_cases hk : k < l.length
    · by_cases hk40 : k < 40
      · have hc1 := ((h.kept hg H.out.new) k hk).1
        have hc2 := ((h.kept hg H.out.new) k hk).2
        obtain ⟨x, hx⟩ : ∃ x, x = l[k].1 := ⟨_, rfl⟩
        obtain ⟨y, hy⟩ : ∃ y, y = l[k].2 := ⟨_, rfl⟩
        have HX := hin _ (List.getElem_mem hk)
        rw [← hx, ← hy] at HX
        obtain ⟨⟨hx1, hx2⟩, hy1, hy2⟩ := HX
        rw [← hx] at hc1
        rw [← hy] at hc2
        clear hx hy
        have hk0' : (0 : Int) ≤ (k : Int) := Int.natCast_nonneg _
        have hk1' : (k : Int) < (l.length : Int) := by omega
        have hgr : g < wr.heap.size := Nat.lt_of_lt_of_le hg H.out.new.size
        go_wp2_with fail
        have F1 : Hid (0 ≤ k) := Nat.zero_le _
        go_region_held3 (fun w' => w'.cell? ⟨g, off + k * 2, none⟩ = some (.int .i64 x) ∧ w'.cell? ⟨g, off + k * 2 + 1, none⟩ = some (.int .i64 y))
          (first
            | go_keep
            | exact ⟨(H1.out.rule _ _ (by simpa using hgr)).trans (by simpa using hc1), (H1.out.rule _ _ (by simpa using hgr)).trans (by simpa using hc2)⟩
            | (go_split_ands
               refine ⟨?_, ?_⟩
               · (rw [hgrow.cell_far _ (by have q1 := H1.out.size; simp at q1 ⊢; omega) (own_ne H.out.own hg)]; assumption)
               · (rw [hgrow.cell_far _ (by have q1 := H1.out.size; simp at q1 ⊢; omega) (own_ne H.out.own hg)]; assumption)))
          (first
            | (go_at_call 17; clear F1; refine (fit_any x _ hx1 hx2).mono ?_; rintro e wf1 ⟨r1, rfl, HC1, rfl⟩)
            | (go_at_call 17; refine (fit_any y _ hy1 hy2).mono ?_; rintro e wf2 ⟨r2, rfl, HC2, rfl⟩)
            | (go_at_call 13; refine (at_any r1 r2 _).mono ?_; rintro e w1 ⟨rfl, H1⟩)
            | ((refine step_append_lies _ (by rfl) _ _ _ (by rfl) w.heap.size 36 i0 _ 2 16 Tryz.underlying22 hi0 hz0 hz1 hz2 rfl (by omega) u3 k (flatP out) (by rfl) ((H.out.own.drew.kept H1.out (by cases hv : u3.ownBlock <;> simp)).alloc _)
                    ⟨w1.heap.size, 0, none⟩ 1 1 [.int .i64 r1, .int .i64 r2] (by rfl) (by rfl) (World.news_of_block (cs := #[.int .i64 r1, .int .i64 r2]) (t := 36) (fr := (0, 0)) (heap_alloc_new w1 _)) (by simp [Value.oneCell'])
                    (by omega) (by unfold maxLen; omega) (by omega) (by have q1 := H1.out.size; have q2 := H.out.new.size; simp at q1 ⊢; omega) (w1.heap.size + 1) (by simp) ?_; intro gg cap' w2 hown1 hgrow hat hlt)))
        have R : Hid (Got w w2 (.slice (some ⟨gg, 0, none⟩) (k + 1) cap') (k + 1) (out ++ [(r1, r2)])) := H.out.next HC1.out HC2.out H1.out _ hown1 hgrow
        clear hown1 hgrow hat hlt
        go_wp2_with fail
        go_roundw
        case rel => exact ⟨k + 1, out ++ [(r1, r2)], by go_num, hk, hk40, R⟩
        case measure => simp [intOf]; omega
      · have hk2 : k = 40 := by omega
        have hm : min l.length 40 = k := by omega
        go_wp2_with fail
        go_ret
        exact ⟨u3, out, rfl, by rw [hm]; exact H⟩
    · have hm : min l.length 40 = k := by omega
      go_wp2_with fail
      go_ret
      exact ⟨u3, out, rfl, by rw [hm]; exact H⟩

end Go.Proofs.YtgeoffpcmkofkaaGreat
/- The walk of plumblaw's 'lent': points with a place behind them. -/
namespace Go.Proofs.YtgeoffpcmkofkaaGreat
open Go.RowKit Fl
set_option maxRecDepth 100000

theorem made_zero (m : Nat) : (madeCells #[.int .i64 0, .int .i64 0] m).toList = List.replicate m (.int .i64 0) := by
  rw [List.eq_replicate_iff]
  refine ⟨by simp [madeCells], ?_⟩
  intro b hb
  simp only [madeCells, Array.toList_map, Array.toList_range, List.mem_map] at hb
  obtain ⟨j, _, rfl⟩ := hb
  have h : j % #[Value.int .i64 0, Value.int .i64 0].size = 0 ∨ j % #[Value.int .i64 0, Value.int .i64 0].size = 1 := by simp; omega
  rcases h with h | h <;> rw [h] <;> rfl

theorem flatP_length (l : Pts) : (flatP l).length = l.length * 2 := by
  induction l with
  | nil => rfl
  | cons p l ih => simp [flatP, ih]; omega
theorem flatP_get : ∀ (l : Pts) (i : Nat) (h : i < l.length), (flatP l)[i * 2]? = some (.int .i64 l[i].1) ∧ (flatP l)[i * 2 + 1]? = some (.int .i64 l[i].2)
  | [], i, h => by simp at h
  | p :: l, 0, h => ⟨rfl, rfl⟩
  | p :: l, i + 1, h => by
    have := flatP_get l i (by simpa using h)
    have e1 : (i + 1) * 2 = i * 2 + 1 + 1 := by omega
    rw [e1]
    simpa [flatP] using this
theorem flatP_one (l : Pts) : ∀ v ∈ flatP l, v.oneCell' = true := by
  induction l with
  | nil => intro v h; simp [flatP] at h
  | cons p l ih =>
    intro v h
    simp only [flatP, List.mem_cons] at h
    rcases h with rfl | rfl | h
    · rfl
    · rfl
    · exact ih v h
/-- A row of points. -/
theorem pts_row {w : World} {g : Nat} {l : Pts} {cur : Array Value} {t : TypeId} (hg : w.heap[g]? = some (.cells cur t (0, 0))) (hc : cur = (flatP l).toArray) : PtsAt w g 0 l := by
  intro i hi
  have := flatP_get l i hi
  rw [Nat.zero_add, cell_of_row w g _ _ t (0, 0) hg, cell_of_row w g _ _ t (0, 0) hg, hc]
  simpa using this
/-- Cells of points that lie there. -/
theorem pts_cells {w : World} {g off : Nat} {l : Pts} (h : PtsAt w g off l) : ∀ j v, (flatP l)[j]? = some v → w.cell? ((⟨g, off, none⟩ : Addr).add j) = some v := by
  intro j v hv
  have hj : j < (flatP l).length := (List.getElem?_eq_some_iff.1 hv).1
  rw [flatP_length] at hj
  have hadd : (⟨g, off, none⟩ : Addr).add j = ⟨g, off + j, none⟩ := by unfold Addr.add; split <;> simp_all
  rw [hadd]
  have hi : j / 2 < l.length := by omega
  have f := flatP_get l (j / 2) hi
  have c := h (j / 2) hi
  rcases (show j = j / 2 * 2 ∨ j = j / 2 * 2 + 1 by omega) with e | e
  · rw [e] at hv ⊢
    rw [f.1] at hv
    rw [c.1, hv]
  · rw [e] at hv ⊢
    rw [f.2] at hv
    rw [← Nat.add_assoc, c.2, hv]

/-- 'copy' of elements of two cells, onto the head of a row. -/
theorem run_copy_pairs {P : Program} (w : World) (dT sT ty elem : TypeId) (g dLen dCap : Nat) (sp : Option Addr) (sLen sCap : Nat) (cur : Array Value) (t : TypeId) (cs : List Value) (n : Nat)
    (hu : P.underlying dT = some (.slice elem)) (hs : (P.info? elem).map (·.size) = some 2) (hg : w.heap[g]? = some (.cells cur t (0, 0))) (hn : n = Nat.min sLen dLen) (hcs : cs.length = n * 2)
    (hsrc : 0 < n → ∃ ad, sp = some ad ∧ ∀ j v, cs[j]? = some v → w.cell? (ad.add j) = some v) (hfit : cs.length ≤ cur.size) (h1 : ∀ v ∈ cs, v.oneCell' = true) :
    (Builtin.copy_ #[dT, sT] ty #[.slice (some ⟨g, 0, none⟩) dLen dCap, .slice sp sLen sCap]).run P w = .ok (goInt n) (w.setRow g (cs ++ cur.toList.drop cs.length).toArray) := by
  cases hq : P.info? elem with
  | none => simp [hq] at hs
  | some i =>
    have hi : i.size = 2 := by simpa [hq] using hs
    by_cases h0 : 0 < n
    · obtain ⟨ad, rfl, hsr⟩ := hsrc h0
      have hl := run_loadCells_list (P := P) w ad cs hsr
      have hst := run_storeCells_at P g 0 t cs 0 cur w hg (by simpa using hfit) h1
      simp [Builtin.copy_, run_underlying hu, Builtin.lenOf, Builtin.firstCells, sizeOf, typeInfo, hq, hi, ← hn, ← hcs, hl, hst]
    · have hn0 : n = 0 := by omega
      subst hn0
      have hc0 : cs = [] := List.eq_nil_of_length_eq_zero (by omega)
      subst hc0
      have hset : w.setRow g ([] ++ cur.toList.drop ([] : List Value).length).toArray = w := by simpa using setRow_self w g cur t (0, 0) hg
      rw [hset]
      have hl : ∀ (x : Addr), (loadCells x 0).run P w = .ok #[] w := fun x => by simpa using run_loadCells_list (P := P) w x [] (by simp)
      cases sp <;> simp [Builtin.copy_, run_underlying hu, Builtin.lenOf, Builtin.firstCells, sizeOf, typeInfo, hq, ← hn, storeCells, hl]

theorem wpList_copy_pairs {P : Program} {w : World} {ops : Array Oper} {rest : List Oper} {o : Oper} {a : Act} {Q : Exit → Act → World → Prop} (hgd : o.guard = none) (d s : Operand) (dT sT : TypeId)
    (ho : o.op = .call { callee := .builtin .copy, args := #[d, s], argTypes := #[dT, sT] }) (elem : TypeId) (hu : P.underlying dT = some (.slice elem)) (hsz : (P.info? elem).map (·.size) = some 2)
    (g dLen dCap : Nat) (sp : Option Addr) (sLen sCap : Nat) (hd : a.eval d = .slice (some ⟨g, 0, none⟩) dLen dCap) (hs : a.eval s = .slice sp sLen sCap) (cur : Array Value) (t : TypeId) (cs : List Value) (n : Nat)
    (hg : w.heap[g]? = some (.cells cur t (0, 0))) (hn : n = Nat.min sLen dLen) (hcs : cs.length = n * 2)
    (hsrc : 0 < n → ∃ ad, sp = some ad ∧ ∀ j v, cs[j]? = some v → w.cell? (ad.add j) = some v) (hfit : cs.length ≤ cur.size) (h1 : ∀ v ∈ cs, v.oneCell' = true)
    (h : ∀ w', w' = w.setRow g (cs ++ cur.toList.drop cs.length).toArray → wpList P ops Q rest (a.put o.dst (goInt n)) w') : wpList P ops Q (o :: rest) a w := by
  refine wpList_plain hgd fun K hK => ?_
  have hrun := run_copy_pairs (P := P) w dT sT o.type elem g dLen dCap sp sLen sCap cur t cs n hu hsz hg hn hcs hsrc hfit h1
  unfold Oper.wp
  simp [execOp, ho, resolve, invoke, builtin, hd, hs, hrun, Result.andThen]
  exact hK _ _ (by simpa using h _ rfl)

theorem New.kept' {w w' : World} (h : New w w') {a : Addr} {v : Value} (hc : w.cell? a = some v) : w'.cell? a = some v :=
  (World.cell?_of_block (h.block a.block (World.block_lt_of_cell? w _ hc) (by simp))).trans hc

theorem eq_nil_some (a : Addr) (n cap : Nat) (w : World) : (binOp BinOp.eql 22 (.slice (some a) n cap) (.slice none 0 0)).run Tryz.prog w = .ok (.bool false) w := by kernel_rfl
theorem eq_nil_none (w : World) : (binOp BinOp.eql 22 (.slice none 0 0) (.slice none 0 0)).run Tryz.prog w = .ok (.bool true) w := by kernel_rfl


theorem wpList_append_run {P : Program} {w : World} {ops : Array Oper} {rest : List Oper} {o : Oper} {a : Act} {Q : Exit → Act → World → Prop} (hgd : o.guard = none) (s x : Operand) (t tx : TypeId)
    (ho : o.op = .call { callee := .builtin .append, args := #[s, x], argTypes := #[t, tx] }) (vs vx v' : Value) (w' : World) (hs : a.eval s = vs) (hx : a.eval x = vx)
    (hrun : (Builtin.append_ #[t, tx] o.type #[vs, vx]).run P w = .ok v' w') (h : wpList P ops Q rest (a.put o.dst v') w') : wpList P ops Q (o :: rest) a w := by
  refine wpList_plain hgd fun K hK => ?_
  unfold Oper.wp
  simp [execOp, ho, resolve, invoke, builtin, hs, hx, hrun, Result.andThen]
  exact hK _ _ h

end Go.Proofs.YtgeoffpcmkofkaaGreat
/- A list of points that came in, opened. -/
namespace Go.Proofs.YtgeoffpcmkofkaaGreat
open Go.ChangeShapes Go.WideShapes Go.ChangeAt Go.RowKit Go.Joins Go.Deep Fl
set_option maxRecDepth 100000

theorem Tryz.own : ownKnob Tryz.prog.godebug = none := by kernel_rfl
theorem New.below {w w' : World} (h : New w w') : Below w.heap.size w w' := ⟨h.os, h.tape, h.output, h.size, fun k hk => h.block k hk (by simp)⟩
theorem Tryz.cells36 : Tryz.prog.cellsOf 36 = 2 := by kernel_rfl
theorem sameLaid : laidOutB Tryz.prog = true := by kernel_rfl
theorem sameBytes : Tryz.prog.bytesOf 36 = 16 := by kernel_rfl

/-- A list of points, opened. -/
theorem open_list {H : Type} {enc : TypeId × Value → H} {W : World} {b0 : Nat} {r : Reach} {v : Value} {d : DataW H} {p : List MemPlace} (hv : Value.okWide Tryz.prog W r b0 22 v) (h : DataW.Trod enc Tryz.prog W 0 (fun _ => true) true 22 v d p) :
    (v = .slice none 0 0 ∧ d = .nil) ∨ ∃ (a : Addr) (cap : Nat) (l : Pts) (elems spare : List (DataW H)), v = .slice (some a) l.length cap ∧ l.length ≤ cap ∧ PolyAt W (some a) l ∧ In64 l ∧ d = .slice elems spare ∧ elems.length + spare.length = cap := by
  obtain ⟨a0, len, cap, rfl⟩ := okWide_slice Tryz.underlying22 hv
  obtain ⟨fuel, hf⟩ := h
  rcases open_slice_pairs Tryz.underlying22 Tryz.underlying36 Tryz.cells36 rfl rfl (by kernel_rfl) (by kernel_rfl) hf with ⟨hcs, hx⟩ | ⟨a, len', cap', m, n, V0, V1, D0, D1, P0, P1, hcs, _, hl, hm, hmm, hx, hcell⟩
  · simp [Value.cells] at hcs
    obtain ⟨rfl, rfl, rfl⟩ := hcs
    simp only [Prod.mk.injEq] at hx
    exact Or.inl ⟨rfl, hx.1⟩
  · simp [Value.cells] at hcs
    obtain ⟨rfl, rfl, rfl⟩ := hcs
    simp only [if_true] at hmm
    subst hmm
    simp only [Prod.mk.injEq] at hx
    have each : ∀ i, i < m → ∃ q : Int × Int, W.cell? (a.add (i * 2)) = some (.int .i64 q.1) ∧ W.cell? (a.add (i * 2 + 1)) = some (.int .i64 q.2) ∧ (Lit.int .i64 q.1).wf = true ∧ (Lit.int .i64 q.2).wf = true := by
      intro i hi
      obtain ⟨e0, e1, e2, e3⟩ := hcell i hi
      obtain ⟨x, f0, _, wx⟩ := DataW.trod_int Tryz.underlying3 e2
      obtain ⟨y, f1, _, wy⟩ := DataW.trod_int Tryz.underlying3 e3
      refine ⟨(x, y), ?_, ?_, wx, wy⟩
      · rw [e0]; simpa using f0
      · rw [e1]; simpa using f1
    obtain ⟨q, hq⟩ := choose_lt each
    refine Or.inr ⟨a, m, (List.range len).map q, _, _, by simp, by simpa using hl, ?_, ?_, hx.1, by simp; omega⟩
    · intro h0
      have hlen : 0 < len := by simpa using h0
      obtain ⟨b, off, spot⟩ := a
      have hspot : spot = none := by simpa [Addr.add] using World.cell?_spot (hq 0 (by omega)).1
      subst hspot
      refine ⟨b, off, rfl, ?_, World.block_lt_of_cell? W _ (hq 0 (by omega)).1⟩
      intro i hi
      have hi' : i < len := by simpa using hi
      have := hq i (by omega)
      rw [add_plain, add_plain] at this
      simp only [List.getElem_map, List.getElem_range]
      exact ⟨this.1, by have := this.2.1; rwa [← Nat.add_assoc] at this⟩
    · intro p hp
      obtain ⟨i, hi, rfl⟩ := List.mem_map.1 hp
      have := hq i (by have := List.mem_range.1 hi; omega)
      have h1 := bounds_i64 this.2.2.1
      have h2 := bounds_i64 this.2.2.2
      omega

end Go.Proofs.YtgeoffpcmkofkaaGreat
/- Circles through two points: which of them hold which points; what lies beyond a side of an empty circle. -/
namespace Go.Proofs.YtgeoffpcmkofkaaGreat

theorem lt_or_ge' (a b : Int) : a < b ∨ b ≤ a := by omega
/-- The circle's determinant of four points. -/
def C (a b c d : Pt) : Int := cdet a.1 a.2 b.1 b.2 c.1 c.2 d.1 d.2
/-- How a point sees two others: their directions' product. -/
def dot (u v p : Pt) : Int := (u.1 - p.1) * (v.1 - p.1) + (u.2 - p.2) * (v.2 - p.2)

/-- THE CIRCLES THROUGH TWO POINTS: the circle side is a cross product of two numbers that each point has by itself. -/
theorem C_cross (u v p q : Pt) : C u v p q = dot u v p * D u v q - dot u v q * D u v p := by
  unfold C cdet dot D det
  grind
theorem dot_swap (u v p : Pt) : dot v u p = dot u v p := by unfold dot; grind
theorem D_swap' (u v p : Pt) : D v u p = -D u v p := by unfold D det; grind
theorem C_swap (u v p q : Pt) : C v u p q = -C u v p q := by
  rw [C_cross, C_cross, dot_swap u v p, dot_swap u v q, D_swap' u v p, D_swap' u v q]; grind
theorem C_turn (u v p q : Pt) : C v p u q = C u v p q := by unfold C cdet; grind
theorem C_self (u v p : Pt) : C u v p p = 0 := by rw [C_cross]; omega
theorem C_first (u v p : Pt) : C u v p u = 0 := by unfold C cdet; grind
theorem C_second (u v p : Pt) : C u v p v = 0 := by unfold C cdet; grind
theorem C_anti (u v p q : Pt) : C u v q p = -C u v p q := by rw [C_cross, C_cross]; grind

theorem nonpos_of_mul {d x : Int} (hd : 0 < d) (h : d * x ≤ 0) : x ≤ 0 := by
  rcases lt_or_ge' 0 x with h1 | h1
  · have := Int.mul_pos hd h1; omega
  · exact h1

/-- On one side of two points, 'not within' is an order. -/
theorem C_trans {u v p q r : Pt} (hp : 0 < D u v p) (hq : 0 < D u v q) (hr : 0 < D u v r) (h1 : C u v p q ≤ 0) (h2 : C u v q r ≤ 0) : C u v p r ≤ 0 := by
  rw [C_cross] at *
  apply nonpos_of_mul hq
  have e : D u v q * (dot u v p * D u v r - dot u v r * D u v p) = D u v r * (dot u v p * D u v q - dot u v q * D u v p) + D u v p * (dot u v q * D u v r - dot u v r * D u v q) := by grind
  rw [e]
  have a1 : D u v r * (dot u v p * D u v q - dot u v q * D u v p) ≤ 0 := Int.mul_nonpos_of_nonneg_of_nonpos (by omega) h1
  have a2 : D u v p * (dot u v q * D u v r - dot u v r * D u v q) ≤ 0 := Int.mul_nonpos_of_nonneg_of_nonpos (by omega) h2
  omega
theorem C_total (u v p q : Pt) : C u v p q ≤ 0 ∨ C u v q p ≤ 0 := by
  rw [C_anti u v p q]; omega

/-- Of the points on one side there is one whose circle holds none of them. -/
theorem least {u v : Pt} : ∀ (S : List Pt), (∃ x ∈ S, 0 < D u v x) → ∃ p ∈ S, 0 < D u v p ∧ ∀ q ∈ S, 0 < D u v q → C u v p q ≤ 0
  | [], h => by obtain ⟨x, hx, _⟩ := h; simp at hx
  | a :: S, h => by
    by_cases hS : ∃ x ∈ S, 0 < D u v x
    · obtain ⟨p, hp, hd, hm⟩ := least S hS
      by_cases ha : 0 < D u v a
      · rcases C_total u v p a with h1 | h1
        · refine ⟨p, by simp [hp], hd, fun q hq hqd => ?_⟩
          rcases List.mem_cons.1 hq with rfl | hq
          · exact h1
          · exact hm q hq hqd
        · refine ⟨a, by simp, ha, fun q hq hqd => ?_⟩
          rcases List.mem_cons.1 hq with rfl | hq
          · rw [C_self]; omega
          · exact C_trans ha hd hqd h1 (hm q hq hqd)
      · refine ⟨p, by simp [hp], hd, fun q hq hqd => ?_⟩
        rcases List.mem_cons.1 hq with rfl | hq
        · exact absurd hqd ha
        · exact hm q hq hqd
    · obtain ⟨x, hx, hxd⟩ := h
      rcases List.mem_cons.1 hx with rfl | hx
      · refine ⟨x, by simp, hxd, fun q hq hqd => ?_⟩
        rcases List.mem_cons.1 hq with rfl | hq
        · rw [C_self]; omega
        · exact absurd ⟨q, hq, hqd⟩ hS
      · exact absurd ⟨x, hx, hxd⟩ hS

/-- No point of S lies within the circle through three points. -/
def Empty (S : List Pt) (a b c : Pt) : Prop := ∀ x ∈ S, C a b c x ≤ 0

/-- BEYOND A SIDE OF AN EMPTY CIRCLE: the one whose circle holds none of those beyond holds none at all. -/
theorem beyond {S : List Pt} {u v p w : Pt} (hp : 0 < D u v p) (he : Empty S u v p) (hwS : w ∈ S) (hw : 0 < D v u w) (hm : ∀ q ∈ S, 0 < D v u q → C v u w q ≤ 0) : Empty S v u w := by
  intro x hx
  have hdw : D u v w < 0 := by rw [D_swap'] at hw; omega
  rcases Int.lt_trichotomy (D u v x) 0 with h | h | h
  · exact hm x hx (by rw [D_swap']; omega)
  · -- on the line
    have e1 := he x hx
    rw [C_cross, h] at e1
    rw [C_swap, C_cross, h]
    have hg : 0 ≤ dot u v x := by
      rcases lt_or_ge' (dot u v x) 0 with g | g
      · have := Int.mul_pos (show 0 < -dot u v x by omega) hp
        have e : -dot u v x * D u v p = -(dot u v x * D u v p) := by grind
        omega
      · exact g
    have := Int.mul_nonpos_of_nonneg_of_nonpos hg (show D u v w ≤ 0 by omega)
    omega
  · have e1 := he w hwS
    have e2 := he x hx
    rw [C_swap, C_cross]
    rw [C_cross] at e1 e2
    apply nonpos_of_mul hp
    have e : D u v p * -(dot u v w * D u v x - dot u v x * D u v w) = D u v x * (dot u v p * D u v w - dot u v w * D u v p) + (-D u v w) * (dot u v p * D u v x - dot u v x * D u v p) := by grind
    rw [e]
    have a1 : D u v x * (dot u v p * D u v w - dot u v w * D u v p) ≤ 0 := Int.mul_nonpos_of_nonneg_of_nonpos (by omega) e1
    have a2 : (-D u v w) * (dot u v p * D u v x - dot u v x * D u v p) ≤ 0 := Int.mul_nonpos_of_nonneg_of_nonpos (by omega) e2
    omega

/-- ON THE HULL: where nothing lies beyond, the one whose circle holds none of those on this side holds none at all, if none lies between the two. -/
theorem onHull {S : List Pt} {u v p : Pt} (hS : ∀ x ∈ S, 0 ≤ D u v x) (hb : ∀ x ∈ S, D u v x = 0 → 0 ≤ dot u v x) (hp : 0 < D u v p) (hm : ∀ q ∈ S, 0 < D u v q → C u v p q ≤ 0) : Empty S u v p := by
  intro x hx
  rcases lt_or_ge' 0 (D u v x) with h | h
  · exact hm x hx h
  · have h0 : D u v x = 0 := by have := hS x hx; omega
    rw [C_cross, h0]
    have := Int.mul_nonneg (hb x hx h0) (show 0 ≤ D u v p by omega)
    omega

end Go.Proofs.YtgeoffpcmkofkaaGreat
