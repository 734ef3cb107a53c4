/- The walk of plumbref's 'Add', signs alike. -/
import Derived.Test.YtgeoffpcmkofkaaWm
namespace Go.Proofs.Ytgeoffpcmkofkaa
open Go.RowKit Fl Dg
set_option maxRecDepth 100000

/-- A digit; 0 behind the end. -/
def dg (ds : List Int) (i : Nat) : Int := ds.getD i 0
theorem dg_ok {ds : List Int} (h : Dok ds) (i : Nat) : 0 ≤ dg ds i ∧ dg ds i < 1048576 := getD_ok h i

theorem digit_same (v : Value) (ds : List Int) (i : Nat) (w : World) (h : Dl w v ds) (hi : i ≤ 1000) :
    Calls Try.prog 58 #[v, .int .i64 i] w fun e w' => e = .returned (.int .i64 (dg ds i)) ∧ w' = w := (digit_any v ds i w h hi).mono fun _ _ h => ⟨h.1, h.2.symm⟩

/-- The memory of a loop that gathers digits in a row of its own. -/
structure Gat (W wr : World) (v : Value) (ds : List Int) : Prop where
  own : wr.ownsRow W.heap.size 3 1 v ds.length (ds.map (Value.int .i64))
  new : New W wr

theorem Gat.next {W wr w1 : World} {v v' : Value} {ds : List Int} {o : Obj} {d : Int} (h : Gat W wr v ds) (g : (wr.alloc o).grownBy w1 v.ownBlock) (hown : w1.ownsRow W.heap.size 3 1 v' (ds.length + 1) (ds.map (Value.int .i64) ++ [.int .i64 d])) : Gat W w1 v' (ds ++ [d]) := by
  refine ⟨by simpa using hown, (h.new.alloc' o).trans g (fun k hk => (h.own.lt k hk).1)⟩

theorem Gat.drewN {W wr : World} {v : Value} {ds : List Int} (h : Gat W wr v ds) (n : Nat) : Gat W (wr.drewN n) v ds := ⟨h.own, h.new.drewN n⟩


/-- The answer is laid into the block R. -/
theorem Gat.answer {w W wr : World} {v : Value} {ds : List Int} (h : Gat W wr v ds) (hn : New w W) {R : Nat} (h1 : w.heap.size ≤ R) (h2 : R < W.heap.size) {neg : Bool} {x : Int} {L : Nat} (hok : Dok ds) (ht : Tr ds) (hx : x = nv neg ds) (hL : ds.length ≤ L) (hf : L ≤ 1000) :
    NuRet w x L (.returned (.agg #[.bool neg, v])) ((wr.setCell ⟨R, 0, none⟩ (.bool neg)).setCell ⟨R, 1, none⟩ v) := by
  have hnw : New w wr := hn.trans' h.new
  have hb : Below w.heap.size w wr := ⟨hnw.os, hnw.tape, hnw.output, hnw.size, fun k hk => hnw.block k hk (by simp)⟩
  have hb2 := (hb.setCell (p := ⟨R, 0, none⟩) h1 (.bool neg)).setCell (p := ⟨R, 1, none⟩) h1 v
  have o1 := ownsRow_setCell_other (ownsRow_setCell_other h.own (a := ⟨R, 0, none⟩) (fun e => own_row h.own (k := R) h2 e.symm) (.bool neg)) (a := ⟨R, 1, none⟩) (fun e => own_row h.own (k := R) h2 e.symm) v
  exact NuRet.mk ⟨⟨neg, v, ds, rfl, own_dl o1 hok (by omega), ht, hx, hL⟩⟩ (Below.new hb2)

theorem nv_add (neg : Bool) (a b d : List Int) (h : dv d = dv a + dv b) : nv neg a + nv neg b = nv neg d := by
  cases neg <;> simp only [nv, h] <;> simp <;> omega

set_option maxHeartbeats 3200000 in
theorem add_alike (neg : Bool) (ao1 ao2 : Option Addr) (c1 c2 : Nat) (a b : List Int) (L : Nat) (w : World) (ha : Dl w (.slice ao1 a.length c1) a) (hb : Dl w (.slice ao2 b.length c2) b) (ta : Tr a) (tb : Tr b) (la : a.length ≤ L) (lb : b.length ≤ L) (hL : L ≤ 900) :
    Calls Try.prog 41 #[.agg #[.bool neg, .slice ao1 a.length c1], .agg #[.bool neg, .slice ao2 b.length c2]] w fun e w' => NuRet w (nv neg a + nv neg b) (L + 1) e w' := by
  obtain ⟨i0, hi, hz0, hz1, hz2⟩ := info_parts Try.info3
  have hbb : (neg == neg) = true := by simp
  obtain ⟨W, hW⟩ : ∃ W, W = ((w.alloc (.cells #[.bool neg, .slice ao1 a.length c1] 55)).alloc (.cells #[.bool neg, .slice ao2 b.length c2] 55)).alloc (.cells #[.bool false, .slice none 0 0] 55) := ⟨_, rfl⟩
  have HW : Hid (New w W ∧ W.heap.size = w.heap.size + 3) := by rw [hW]; exact ⟨((New.alloc _ _).alloc' _).alloc' _, by simp⟩
  have ra0 : W.cell? ⟨w.heap.size, 0, none⟩ = some (.bool neg) := by rw [hW]; go_simp
  have ra1 : W.cell? ⟨w.heap.size, 1, none⟩ = some (.slice ao1 a.length c1) := by rw [hW]; go_simp
  have rb1 : W.cell? ⟨w.heap.size + 1, 1, none⟩ = some (.slice ao2 b.length c2) := by rw [hW]; go_simp
  have HWe : Hid (W = ((w.alloc (.cells #[.bool neg, .slice ao1 a.length c1] 55)).alloc (.cells #[.bool neg, .slice ao2 b.length c2] 55)).alloc (.cells #[.bool false, .slice none 0 0] 55)) := hW
  clear hW
  go_enter Try.func41, Try.ntmps41
  go_wp2_with fail
  have r0 : W.cell? ⟨w.heap.size + 1 + 1, 0, none⟩ = some (.bool false) := by rw [HWe.out]; go_simp
  have r1 : W.cell? ⟨w.heap.size + 1 + 1, 1, none⟩ = some (.slice none 0 0) := by rw [HWe.out]; go_simp
  have f0 : ∀ o, W.frozen? ⟨w.heap.size + 1 + 1, o, none⟩ = false := by intro o; rw [HWe.out]; go_simp
  have HD : Hid (Dl W (.slice ao1 a.length c1) a ∧ Dl W (.slice ao2 b.length c2) b) := ⟨ha.kept HW.out.1, hb.kept HW.out.1⟩
  go_loopw [5, 6, 7] (fun d c i wr => ∃ (k : Nat) (cv : Int) (v : Value) (ds : List Int), i = .int .i64 k ∧ c = .int .i64 cv ∧ d = v ∧ 0 ≤ cv ∧ cv ≤ 1 ∧ k ≤ L + 1 ∧ Hid (AddI a b k ds cv ∧ Gat W wr v ds))
    (fun _ _ i _ => L + 1 - (intOf i).toNat)
  case atStart =>
    refine ⟨0, 0, _, [], rfl, rfl, rfl, by omega, by omega, by omega, AddI.start a b, World.ownsRow_nil _ _ _ _, ?_⟩
    rw [← HWe.out]; exact New.refl W
  case round =>
    obtain ⟨k, cv, v, ds, rfl, rfl, rfl, hc0, hc1, hk, H⟩ := hrel
    obtain ⟨ao, c, hv⟩ := own_shape H.out.2.own
    subst hv
    have hlen : ds.length ≤ L + 1 := by have := H.out.1.len; omega
    have hsz := HW.out.2
    have qa1 : wr.cell? ⟨w.heap.size, 1, none⟩ = some (.slice ao1 a.length c1) := by rw [H.out.2.new.rule _ _ (by omega)]; exact ra1
    have qb1 : wr.cell? ⟨w.heap.size + 1, 1, none⟩ = some (.slice ao2 b.length c2) := by rw [H.out.2.new.rule _ _ (by omega)]; exact rb1
    have HDr : Hid (∀ n, Dl (wr.drewN n) (.slice ao1 a.length c1) a ∧ Dl (wr.drewN n) (.slice ao2 b.length c2) b) := fun n => ⟨HD.out.1.kept (H.out.2.new.drewN n), HD.out.2.kept (H.out.2.new.drewN n)⟩
    clear ra0 ra1 rb1 r0 r1 f0 hsz
    have HOK : Hid (Dok a ∧ Dok b) := ⟨ha.ok, hb.ok⟩
    have ba := dg_ok ha.ok k
    have bb := dg_ok hb.ok k
    have ba0 := ba.1
    have ba1 := ba.2
    have bb0 := bb.1
    have bb1 := bb.2
    clear ba bb
    by_cases g1 : k < a.length
    · have HGO : k < a.length ∨ k < b.length ∨ 0 < cv := Or.inl g1
      go_wp2_with fail
      go_quiet (first | (go_at_call 58; exact Calls.quiet_of_same (digit_same _ a k _ (HDr.out _).1 (by omega))) | (go_at_call 58; exact Calls.quiet_of_same (digit_same _ b k _ (HDr.out _).2 (by omega))))
      go_wp2_with (at_builtin; refine wpList_append_own _ rfl _ _ 46 rfl W.heap.size 3 i0 (.int .i64 0) 1 8 Try.underlying46 hi hz0 hz1 hz2 rfl (by decide) _ _ _ rfl ((H.out.2.drewN nq).own.alloc _) ⟨wr.heap.size, 0, none⟩ 1 1 [.int .i64 ((dg a k + dg b k + cv) % 1048576)] rfl rfl (cell_one_new _ _ _) ?c2 ?c3 ?c4 ?c5 ?_)
      case c2 => intro u hu; rw [List.mem_singleton.1 hu]; rfl
      case c3 => unfold maxLen; omega
      case c4 => omega
      case c5 => have := H.out.2.new.size; simp; omega
      intro v' w1 hown1 hgrow1 hnil
      have HA : Hid (AddI a b (k + 1) (ds ++ [(dg a k + dg b k + cv) % 1048576]) ((dg a k + dg b k + cv) / 1048576)) := (H.out.1.next HOK.out.1 HOK.out.2 HGO rfl).1
      have HM : Hid (Gat W w1 v' (ds ++ [(dg a k + dg b k + cv) % 1048576])) := (H.out.2.drewN nq).next hgrow1 hown1
      obtain ⟨g', cap', rfl, _⟩ := own_form hown1 (by omega)
      clear hown1 hgrow1 hnil qa1 qb1
      go_wp2_with fail
      go_roundw
      case rel => exact ⟨k + 1, _, _, _, by go_num, rfl, rfl, by omega, by omega, by have := HA.out.stop; omega, HA.out, HM.out⟩
      case measure => have := HA.out.stop; simp [intOf]; omega
    · by_cases g2 : k < b.length
      · have HGO : k < a.length ∨ k < b.length ∨ 0 < cv := Or.inr (Or.inl g2)
        go_wp2_with fail
        go_quiet (first | (go_at_call 58; exact Calls.quiet_of_same (digit_same _ a k _ (HDr.out _).1 (by omega))) | (go_at_call 58; exact Calls.quiet_of_same (digit_same _ b k _ (HDr.out _).2 (by omega))))
        go_wp2_with (at_builtin; refine wpList_append_own _ rfl _ _ 46 rfl W.heap.size 3 i0 (.int .i64 0) 1 8 Try.underlying46 hi hz0 hz1 hz2 rfl (by decide) _ _ _ rfl ((H.out.2.drewN nq).own.alloc _) ⟨wr.heap.size, 0, none⟩ 1 1 [.int .i64 ((dg a k + dg b k + cv) % 1048576)] rfl rfl (cell_one_new _ _ _) ?d2 ?d3 ?d4 ?d5 ?_)
        case d2 => intro u hu; rw [List.mem_singleton.1 hu]; rfl
        case d3 => unfold maxLen; omega
        case d4 => omega
        case d5 => have := H.out.2.new.size; simp; omega
        intro v' w1 hown1 hgrow1 hnil
        have HA : Hid (AddI a b (k + 1) (ds ++ [(dg a k + dg b k + cv) % 1048576]) ((dg a k + dg b k + cv) / 1048576)) := (H.out.1.next HOK.out.1 HOK.out.2 HGO rfl).1
        have HM : Hid (Gat W w1 v' (ds ++ [(dg a k + dg b k + cv) % 1048576])) := (H.out.2.drewN nq).next hgrow1 hown1
        obtain ⟨g', cap', rfl, _⟩ := own_form hown1 (by omega)
        clear hown1 hgrow1 hnil qa1 qb1
        go_wp2_with fail
        go_roundw
        case rel => exact ⟨k + 1, _, _, _, by go_num, rfl, rfl, by omega, by omega, by have := HA.out.stop; omega, HA.out, HM.out⟩
        case measure => have := HA.out.stop; simp [intOf]; omega
      · by_cases g3 : 0 < cv
        · have HGO : k < a.length ∨ k < b.length ∨ 0 < cv := Or.inr (Or.inr g3)
          go_wp2_with fail
          go_quiet (first | (go_at_call 58; exact Calls.quiet_of_same (digit_same _ a k _ (HDr.out _).1 (by omega))) | (go_at_call 58; exact Calls.quiet_of_same (digit_same _ b k _ (HDr.out _).2 (by omega))))
          go_wp2_with (at_builtin; refine wpList_append_own _ rfl _ _ 46 rfl W.heap.size 3 i0 (.int .i64 0) 1 8 Try.underlying46 hi hz0 hz1 hz2 rfl (by decide) _ _ _ rfl ((H.out.2.drewN nq).own.alloc _) ⟨wr.heap.size, 0, none⟩ 1 1 [.int .i64 ((dg a k + dg b k + cv) % 1048576)] rfl rfl (cell_one_new _ _ _) ?e2 ?e3 ?e4 ?e5 ?_)
          case e2 => intro u hu; rw [List.mem_singleton.1 hu]; rfl
          case e3 => unfold maxLen; omega
          case e4 => omega
          case e5 => have := H.out.2.new.size; simp; omega
          intro v' w1 hown1 hgrow1 hnil
          have HA : Hid (AddI a b (k + 1) (ds ++ [(dg a k + dg b k + cv) % 1048576]) ((dg a k + dg b k + cv) / 1048576)) := (H.out.1.next HOK.out.1 HOK.out.2 HGO rfl).1
          have HM : Hid (Gat W w1 v' (ds ++ [(dg a k + dg b k + cv) % 1048576])) := (H.out.2.drewN nq).next hgrow1 hown1
          obtain ⟨g', cap', rfl, _⟩ := own_form hown1 (by omega)
          clear hown1 hgrow1 hnil qa1 qb1
          go_wp2_with fail
          go_roundw
          case rel => exact ⟨k + 1, _, _, _, by go_num, rfl, rfl, by omega, by omega, by have := HA.out.stop; omega, HA.out, HM.out⟩
          case measure => have := HA.out.stop; simp [intOf]; omega
        · have hz : cv = 0 := by omega
          subst hz
          have hd := H.out.1.done HOK.out.1 HOK.out.2 ta tb (by omega) (by omega)
          have HE : Hid (dv ds = dv a + dv b ∧ Tr ds) := hd
          clear hd
          have hsz := HW.out.2
          have q0 : wr.cell? ⟨w.heap.size, 0, none⟩ = some (.bool neg) := by rw [H.out.2.new.rule _ _ (by omega), HWe.out]; go_simp
          have qr0 : wr.cell? ⟨w.heap.size + 1 + 1, 0, none⟩ = some (.bool false) := by rw [H.out.2.new.rule _ _ (by omega), HWe.out]; go_simp
          have qr1 : wr.cell? ⟨w.heap.size + 1 + 1, 1, none⟩ = some (.slice none 0 0) := by rw [H.out.2.new.rule _ _ (by omega), HWe.out]; go_simp
          have qf0 : wr.frozen? ⟨w.heap.size + 1 + 1, 0, none⟩ = false := by rw [H.out.2.new.frule _ _ (by omega), HWe.out]; go_simp
          have qf1 : wr.frozen? ⟨w.heap.size + 1 + 1, 1, none⟩ = false := by rw [H.out.2.new.frule _ _ (by omega), HWe.out]; go_simp
          clear hsz
          go_wp2_with fail
          refine bodyPost_ret (v := .agg #[.bool neg, .slice ao ds.length c]) (by simp [results, Try.results41, go_sem, qr0, qr1]) rfl ?_
          exact H.out.2.answer HW.out.1 (by omega) (by have := HW.out.2; omega) H.out.1.ok HE.out.2 (nv_add neg a b ds HE.out.1) hlen (by omega)

end Go.Proofs.Ytgeoffpcmkofkaa
