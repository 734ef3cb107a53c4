/- Wo; Wp; Wq: texts laid into one. -/
import Derived.Test.YtgeoffpcmkofkaaQbd
import Derived.Deep.RegionHeld3
/- The walk of plumbref's 'Add', signs unlike. -/
namespace Go.Proofs.Ytgeoffpcmkofkaa
open Go.RowKit Fl Dg
set_option maxRecDepth 100000

theorem trim_same (v : Value) (ds : List Int) (w : World) (h : Dl w v ds) : Calls Try.prog 59 #[v] w fun e w' => ∃ (ao : Option Addr) (c : Nat) (ds' : List Int), e = .returned (.slice ao ds'.length c) ∧ w = w' ∧ Hid (Dl w (.slice ao ds'.length c) ds' ∧ dv ds' = dv ds ∧ Tr ds' ∧ ds'.length ≤ ds.length ∧ (Value.slice ao ds'.length c).ownBlock = v.ownBlock) := by
  refine (trim_any v ds w h).mono ?_
  rintro e w' ⟨v', ds', rfl, rfl, H⟩
  obtain ⟨ao, n, c, rfl, rfl⟩ := slice_val H.out.1
  exact ⟨ao, c, ds', rfl, rfl, H.out⟩

/-- The answer is laid into the block R: digits that lie anywhere but there. -/
theorem Gat.answer' {w W wr : World} {v v' : Value} {ds ds' : List Int} (h : Gat W wr v ds) (hn : New w W) {R : Nat} (h1 : w.heap.size ≤ R) {neg : Bool} {x : Int} {L : Nat} (hd : Dl wr v' ds') (hR : v'.ownBlock ≠ some R) (ht : Tr ds') (hx : x = nv neg ds') (hL : ds'.length ≤ L) :
    NuRet w x L (.returned (.agg #[.bool neg, v'])) ((wr.setCell ⟨R, 0, none⟩ (.bool neg)).setCell ⟨R, 1, none⟩ v') := by
  have hnw : New w wr := hn.trans' h.new
  have hb : Below w.heap.size w wr := ⟨hnw.os, hnw.tape, hnw.output, hnw.size, fun k hk => hnw.block k hk (by simp)⟩
  have hb2 := (hb.setCell (p := ⟨R, 0, none⟩) h1 (.bool neg)).setCell (p := ⟨R, 1, none⟩) h1 v'
  have o1 := ownsRow_setCell_other (ownsRow_setCell_other hd.own (a := ⟨R, 0, none⟩) hR (.bool neg)) (a := ⟨R, 1, none⟩) hR v'
  exact NuRet.mk ⟨⟨neg, v', ds', rfl, ⟨o1, hd.ok, hd.few⟩, ht, hx, hL⟩⟩ (Below.new hb2)

/-- The memory where the loop of differences begins: X, the greater, in the first box, Y in the second. -/
structure SubB (w V : World) (neg : Bool) (vx vy : Value) (X Y : List Int) : Prop where
  new : New w V
  size : w.heap.size + 3 ≤ V.heap.size
  x0 : V.cell? ⟨w.heap.size, 0, none⟩ = some (.bool neg)
  x1 : V.cell? ⟨w.heap.size, 1, none⟩ = some vx
  y1 : V.cell? ⟨w.heap.size + 1, 1, none⟩ = some vy
  r0 : V.cell? ⟨w.heap.size + 1 + 1, 0, none⟩ = some (.bool false)
  r1 : V.cell? ⟨w.heap.size + 1 + 1, 1, none⟩ = some (.slice none 0 0)
  rf : ∀ o, V.frozen? ⟨w.heap.size + 1 + 1, o, none⟩ = false
  dx : Dl V vx X
  dy : Dl V vy Y
  le : dv Y ≤ dv X

/-- What holds in a round. -/
structure SubR (w V wr : World) (neg : Bool) (vx vy v : Value) (X Y ds : List Int) (k : Nat) (cv : Int) : Prop where
  base : SubB w V neg vx vy X Y
  inv : SubI X Y k ds cv
  gat : Gat V wr v ds

theorem SubR.cells {w V wr : World} {neg : Bool} {vx vy v : Value} {X Y ds : List Int} {k : Nat} {cv : Int} (h : SubR w V wr neg vx vy v X Y ds k cv) :
    wr.cell? ⟨w.heap.size, 1, none⟩ = some vx ∧ wr.cell? ⟨w.heap.size + 1, 1, none⟩ = some vy ∧ wr.cell? ⟨w.heap.size, 0, none⟩ = some (.bool neg) := by
  have hs := h.base.size
  refine ⟨?_, ?_, ?_⟩
  · rw [h.gat.new.rule _ _ (by omega)]; exact h.base.x1
  · rw [h.gat.new.rule _ _ (by omega)]; exact h.base.y1
  · rw [h.gat.new.rule _ _ (by omega)]; exact h.base.x0

theorem SubR.digits {w V wr : World} {neg : Bool} {vx vy v : Value} {X Y ds : List Int} {k : Nat} {cv : Int} (h : SubR w V wr neg vx vy v X Y ds k cv) (n : Nat) : Dl (wr.drewN n) vx X ∧ Dl (wr.drewN n) vy Y :=
  ⟨h.base.dx.kept (h.gat.new.drewN n), h.base.dy.kept (h.gat.new.drewN n)⟩

theorem SubR.next {w V wr w1 : World} {neg : Bool} {vx vy v v' : Value} {X Y ds : List Int} {k n : Nat} {cv s t c' : Int} {o : Obj} (h : SubR w V wr neg vx vy v X Y ds k cv) (hs : s = dg X k - dg Y k - cv) (ht : (s < 0 ∧ t = s + 1048576 ∧ c' = 1) ∨ (0 ≤ s ∧ t = s ∧ c' = 0))
    (g : ((wr.drewN n).alloc o).grownBy w1 v.ownBlock) (hown : w1.ownsRow V.heap.size 3 1 v' (ds.length + 1) (ds.map (Value.int .i64) ++ [.int .i64 t])) : SubR w V w1 neg vx vy v' X Y (ds ++ [t]) (k + 1) c' :=
  ⟨h.base, h.inv.next h.base.dx.ok h.base.dy.ok hs ht, (h.gat.drewN n).next g hown⟩

theorem keep2 {w : World} {R b o : Nat} {v x y : Value} (h : w.cell? ⟨b, o, none⟩ = some v) (hb : b < R) : ((w.setCell ⟨R, 0, none⟩ x).setCell ⟨R, 1, none⟩ y).drew.cell? ⟨b, o, none⟩ = some v := by
  have e : ((w.setCell ⟨R, 0, none⟩ x).setCell ⟨R, 1, none⟩ y).drew.cell? ⟨b, o, none⟩ = w.cell? ⟨b, o, none⟩ :=
    World.cell?_of_block (a := ⟨b, o, none⟩) ((heap_setCell_other _ ⟨R, 1, none⟩ b y (by simp; omega)).trans (heap_setCell_other w ⟨R, 0, none⟩ b x (by simp; omega)))
  rw [e]; exact h

theorem nv_sub (neg : Bool) (X Y d : List Int) (h : dv d = dv X - dv Y) : nv neg d = nv neg X + nv (!neg) Y := by
  cases neg <;> simp only [nv, h] <;> simp <;> omega

set_option maxHeartbeats 3200000 in
theorem add_unlike (neg : Bool) (ao1 ao2 : Option Addr) (c1 c2 : Nat) (a b : List Int) (L : Nat) (w : World) (ha : Dl w (.slice ao1 a.length c1) a) (hb : Dl w (.slice ao2 b.length c2) b) (ta : Tr a) (tb : Tr b) (la : a.length ≤ L) (_lb : b.length ≤ L) (hL : L ≤ 900) (hle : gtB b a = false) :
    Calls Try.prog 41 #[.agg #[.bool neg, .slice ao1 a.length c1], .agg #[.bool !neg, .slice ao2 b.length c2]] w fun e w' => NuRet w (nv neg a + nv (!neg) b) (L + 1) e w' := by
  obtain ⟨i0, hi, hz0, hz1, hz2⟩ := info_parts Try.info3
  have hbb : (neg == !neg) = false := by cases neg <;> rfl
  have HLE : Hid (gtB b a = false) := hle
  go_enter Try.func41, Try.ntmps41
  go_wp2_with fail
  refine (greater_any _ _ b a _ (hb.kept (((New.alloc _ _).alloc' _).alloc' _)) (ha.kept (((New.alloc _ _).alloc' _).alloc' _)) tb ta).mono ?_
  rintro e w1 ⟨rfl, H1⟩
  have HB : Hid (SubB w w1 neg (.slice ao1 a.length c1) (.slice ao2 b.length c2) a b) := by
    have hN := (((New.alloc w _).alloc' _).alloc' _).trans' H1.out
    have hr := H1.out.rule
    have hfr := H1.out.frule
    refine ⟨hN, by have := H1.out.size; simp at this; omega, ?_, ?_, ?_, ?_, ?_, ?_, ha.kept hN, hb.kept hN, by have := of_decide_eq_false HLE.out; omega⟩
    all_goals first | (intro o; rw [hfr _ _ (by simp <;> omega)]; go_simp) | (rw [hr _ _ (by simp <;> omega)]; go_simp)
  clear hle
  have hle := HLE.out
  go_wp2_with fail
  go_loopw [10, 11, 12] (fun d c i wr => ∃ (k : Nat) (cv : Int) (v : Value) (ds : List Int), i = .int .i64 k ∧ c = .int .i64 cv ∧ d = v ∧ 0 ≤ cv ∧ cv ≤ 1 ∧ k ≤ a.length ∧ Hid (SubR w w1 wr neg (.slice ao1 a.length c1) (.slice ao2 b.length c2) v a b ds k cv))
    (fun _ _ i _ => a.length - (intOf i).toNat)
  case atStart => exact ⟨0, 0, _, [], rfl, rfl, rfl, by omega, by omega, by omega, HB.out, SubI.start a b, World.ownsRow_nil _ _ _ _, New.refl w1⟩
  case round =>
    obtain ⟨k, cv, v, ds, rfl, rfl, rfl, hc0, hc1, hk, H⟩ := hrel
    obtain ⟨ao, c, hv⟩ := own_shape H.out.gat.own
    subst hv
    have hlen : ds.length ≤ L := by have := H.out.inv.len; omega
    have qa1 := H.out.cells.1
    have qb1 := H.out.cells.2.1
    by_cases g1 : k < a.length
    · have HDr : Hid (∀ n, Dl (wr.drewN n) (.slice ao1 a.length c1) a ∧ Dl (wr.drewN n) (.slice ao2 b.length c2) b) := H.out.digits
      have ba0 := (dg_ok H.out.base.dx.ok k).1
      have ba1 := (dg_ok H.out.base.dx.ok k).2
      have bb0 := (dg_ok H.out.base.dy.ok k).1
      have bb1 := (dg_ok H.out.base.dy.ok k).2
      by_cases hs : dg a k - dg b k - cv < 0
      · skip
        go_wp2_with fail
        go_quiet (first | (go_at_call 58; exact Calls.quiet_of_same (digit_same _ a k _ (HDr.out _).1 (by omega))) | (go_at_call 58; exact Calls.quiet_of_same (digit_same _ b k _ (HDr.out _).2 (by omega))))
        go_wp2_with (at_builtin; refine wpList_append_own _ rfl _ _ 46 rfl w1.heap.size 3 i0 (.int .i64 0) 1 8 Try.underlying46 hi hz0 hz1 hz2 rfl (by decide) _ _ _ rfl ((H.out.gat.drewN nq).own.alloc _) ⟨wr.heap.size, 0, none⟩ 1 1 [.int .i64 (dg a k - dg b k - cv + 1048576)] rfl rfl (cell_one_new _ _ _) ?c2 ?c3 ?c4 ?c5 ?_)
        case c2 => intro u hu; rw [List.mem_singleton.1 hu]; rfl
        case c3 => unfold maxLen; omega
        case c4 => omega
        case c5 => have := H.out.gat.new.size; simp; omega
        intro v' w2 hown1 hgrow1 hnil
        have HN : Hid (SubR w w1 w2 neg (.slice ao1 a.length c1) (.slice ao2 b.length c2) v' a b (ds ++ [dg a k - dg b k - cv + 1048576]) (k + 1) 1) := H.out.next rfl (Or.inl ⟨by omega, rfl, rfl⟩) hgrow1 hown1
        obtain ⟨g', cap', rfl, _⟩ := own_form hown1 (by omega)
        clear hown1 hgrow1 hnil qa1 qb1
        go_wp2_with fail
        go_roundw
        case rel => exact ⟨k + 1, _, _, _, by go_num, rfl, rfl, by omega, by omega, by omega, HN.out⟩
        case measure => simp [intOf]; omega
      · skip
        go_wp2_with fail
        go_quiet (first | (go_at_call 58; exact Calls.quiet_of_same (digit_same _ a k _ (HDr.out _).1 (by omega))) | (go_at_call 58; exact Calls.quiet_of_same (digit_same _ b k _ (HDr.out _).2 (by omega))))
        go_wp2_with (at_builtin; refine wpList_append_own _ rfl _ _ 46 rfl w1.heap.size 3 i0 (.int .i64 0) 1 8 Try.underlying46 hi hz0 hz1 hz2 rfl (by decide) _ _ _ rfl ((H.out.gat.drewN nq).own.alloc _) ⟨wr.heap.size, 0, none⟩ 1 1 [.int .i64 (dg a k - dg b k - cv)] rfl rfl (cell_one_new _ _ _) ?d2 ?d3 ?d4 ?d5 ?_)
        case d2 => intro u hu; rw [List.mem_singleton.1 hu]; rfl
        case d3 => unfold maxLen; omega
        case d4 => omega
        case d5 => have := H.out.gat.new.size; simp; omega
        intro v' w2 hown1 hgrow1 hnil
        have HN : Hid (SubR w w1 w2 neg (.slice ao1 a.length c1) (.slice ao2 b.length c2) v' a b (ds ++ [dg a k - dg b k - cv]) (k + 1) 0) := H.out.next rfl (Or.inr ⟨by omega, rfl, rfl⟩) hgrow1 hown1
        obtain ⟨g', cap', rfl, _⟩ := own_form hown1 (by omega)
        clear hown1 hgrow1 hnil qa1 qb1
        go_wp2_with fail
        go_roundw
        case rel => exact ⟨k + 1, _, _, _, by go_num, rfl, rfl, by omega, by omega, by omega, HN.out⟩
        case measure => simp [intOf]; omega
    · have hk2 : k = a.length := by omega
      subst hk2
      have HD : Hid (∀ n, Dl (wr.drewN n) (.slice ao ds.length c) ds) := fun n => (own_dl H.out.gat.own H.out.inv.ok (by omega)).kept ((New.refl wr).drewN n)
      have HE : Hid (dv ds = dv a - dv b) := H.out.inv.done H.out.base.dy.ok H.out.base.le
      have hsz := H.out.base.size
      have q0 := H.out.cells.2.2
      have qr0 : wr.cell? ⟨w.heap.size + 1 + 1, 0, none⟩ = some (.bool false) := by rw [H.out.gat.new.rule _ _ (by omega)]; exact H.out.base.r0
      have qr1 : wr.cell? ⟨w.heap.size + 1 + 1, 1, none⟩ = some (.slice none 0 0) := by rw [H.out.gat.new.rule _ _ (by omega)]; exact H.out.base.r1
      have qf : ∀ o, wr.frozen? ⟨w.heap.size + 1 + 1, o, none⟩ = false := fun o => by rw [H.out.gat.new.frule _ _ (by omega)]; exact H.out.base.rf o
      clear qb1
      go_wp2_with fail
      have HDd : Hid (Dl wr.drew (.slice ao ds.length c) ds) := HD.out 1
      go_region_with (go_at_call 59; refine (trim_same _ ds _ HDd.out).mono ?_; rintro e w3 ⟨ao', c', ds', rfl, rfl, HT⟩)
      all_goals
        go_wp2_with fail
        refine bodyPost_ret (v := .agg #[.bool neg, .slice ao' ds'.length c']) (by simp [results, Try.results41, go_sem, qr0, qr1]) rfl ?_
        exact (H.out.gat.drewN 1).answer' H.out.base.new (by omega) HT.out.1 (by rw [HT.out.2.2.2.2]; exact fun e => own_row H.out.gat.own (k := w.heap.size + 1 + 1) (by omega) e.symm) HT.out.2.2.1 (by rw [nv_sub neg a b ds' (HT.out.2.1.trans HE.out)]) (by have := HT.out.2.2.2.1; omega)

theorem subB_swapped {w w1 : World} {neg : Bool} {va vb : Value} {a b : List Int} (ha : Dl w va a) (hb : Dl w vb b) (h : New (((w.alloc (.cells #[.bool neg, va] 55)).alloc (.cells #[.bool !neg, vb] 55)).alloc (.cells #[.bool false, .slice none 0 0] 55)) w1) (hle : dv a ≤ dv b) :
    SubB w ((((w1.setCell ⟨w.heap.size, 0, none⟩ (.bool !neg)).setCell ⟨w.heap.size, 1, none⟩ vb).setCell ⟨w.heap.size + 1, 0, none⟩ (.bool neg)).setCell ⟨w.heap.size + 1, 1, none⟩ va) (!neg) vb va b a := by
  have hN := (((New.alloc w (.cells #[.bool neg, va] 55)).alloc' (.cells #[.bool !neg, vb] 55)).alloc' (.cells #[.bool false, .slice none 0 0] 55)).trans' h
  have hsz : w.heap.size + 3 ≤ w1.heap.size := by have := h.size; simp at this; omega
  have b0 : w1.heap[w.heap.size]? = some (.cells #[.bool neg, va] 55 (0, 0)) := by
    rw [h.block _ (by simp <;> omega) (by simp), _root_.Go.heap_alloc_old _ _ (by simp <;> omega), _root_.Go.heap_alloc_old _ _ (by simp)]; exact _root_.Go.heap_alloc_new w _
  have b1 : w1.heap[w.heap.size + 1]? = some (.cells #[.bool !neg, vb] 55 (0, 0)) := by
    rw [h.block _ (by simp <;> omega) (by simp), _root_.Go.heap_alloc_old _ _ (by simp)]
    have := _root_.Go.heap_alloc_new (w.alloc (.cells #[.bool neg, va] 55)) (.cells #[.bool !neg, vb] 55)
    simpa using this
  have b2 : w1.heap[w.heap.size + 1 + 1]? = some (.cells #[.bool false, .slice none 0 0] 55 (0, 0)) := by
    rw [h.block _ (by simp) (by simp)]
    have := _root_.Go.heap_alloc_new ((w.alloc (.cells #[.bool neg, va] 55)).alloc (.cells #[.bool !neg, vb] 55)) (.cells #[.bool false, .slice none 0 0] 55)
    simpa using this
  have s0 := pair_set1 (u := vb) (pair_set0 (u := .bool !neg) b0)
  have s1 : ((w1.setCell ⟨w.heap.size, 0, none⟩ (.bool !neg)).setCell ⟨w.heap.size, 1, none⟩ vb).heap[w.heap.size + 1]? = some (.cells #[.bool !neg, vb] 55 (0, 0)) := by
    rw [heap_setCell_other _ ⟨w.heap.size, 1, none⟩ _ vb (by simp), heap_setCell_other _ ⟨w.heap.size, 0, none⟩ _ _ (by simp)]; exact b1
  have t1 := pair_set1 (u := va) (pair_set0 (u := .bool neg) s1)
  have t0 : ((((w1.setCell ⟨w.heap.size, 0, none⟩ (.bool !neg)).setCell ⟨w.heap.size, 1, none⟩ vb).setCell ⟨w.heap.size + 1, 0, none⟩ (.bool neg)).setCell ⟨w.heap.size + 1, 1, none⟩ va).heap[w.heap.size]? = some (.cells #[.bool !neg, vb] 55 (0, 0)) := by
    rw [heap_setCell_other _ ⟨w.heap.size + 1, 1, none⟩ _ va (by simp), heap_setCell_other _ ⟨w.heap.size + 1, 0, none⟩ _ _ (by simp)]; exact s0
  have t2 : ((((w1.setCell ⟨w.heap.size, 0, none⟩ (.bool !neg)).setCell ⟨w.heap.size, 1, none⟩ vb).setCell ⟨w.heap.size + 1, 0, none⟩ (.bool neg)).setCell ⟨w.heap.size + 1, 1, none⟩ va).heap[w.heap.size + 1 + 1]? = some (.cells #[.bool false, .slice none 0 0] 55 (0, 0)) := by
    rw [heap_setCell_other _ ⟨w.heap.size + 1, 1, none⟩ _ va (by simp), heap_setCell_other _ ⟨w.heap.size + 1, 0, none⟩ _ _ (by simp), heap_setCell_other _ ⟨w.heap.size, 1, none⟩ _ vb (by simp <;> omega), heap_setCell_other _ ⟨w.heap.size, 0, none⟩ _ _ (by simp <;> omega)]; exact b2
  have hb0 : Below w.heap.size w w1 := ⟨hN.os, hN.tape, hN.output, hN.size, fun k hk => hN.block k hk (by simp)⟩
  have hB := (((hb0.setCell (p := ⟨w.heap.size, 0, none⟩) (Nat.le_refl _) (.bool !neg)).setCell (p := ⟨w.heap.size, 1, none⟩) (Nat.le_refl _) vb).setCell (p := ⟨w.heap.size + 1, 0, none⟩) (by simp) (.bool neg)).setCell (p := ⟨w.heap.size + 1, 1, none⟩) (by simp) va
  have hV := Below.new hB
  exact ⟨hV, by simpa [World.setCell] using hsz, pair_cell0 t0, pair_cell1 t0, pair_cell1 t1, pair_cell0 t2, pair_cell1 t2, fun o => pair_free t2, hb.kept hV, ha.kept hV, hle⟩

set_option maxHeartbeats 3200000 in
theorem add_swapped (neg : Bool) (ao1 ao2 : Option Addr) (c1 c2 : Nat) (a b : List Int) (L : Nat) (w : World) (ha : Dl w (.slice ao1 a.length c1) a) (hb : Dl w (.slice ao2 b.length c2) b) (ta : Tr a) (tb : Tr b) (_la : a.length ≤ L) (lb : b.length ≤ L) (hL : L ≤ 900) (hle : gtB b a = true) :
    Calls Try.prog 41 #[.agg #[.bool neg, .slice ao1 a.length c1], .agg #[.bool !neg, .slice ao2 b.length c2]] w fun e w' => NuRet w (nv neg a + nv (!neg) b) (L + 1) e w' := by
  obtain ⟨i0, hi, hz0, hz1, hz2⟩ := info_parts Try.info3
  have hbb : (neg == !neg) = false := by cases neg <;> rfl
  have HLE : Hid (gtB b a = true) := hle
  go_enter Try.func41, Try.ntmps41
  go_wp2_with fail
  refine (greater_any _ _ b a _ (hb.kept (((New.alloc _ _).alloc' _).alloc' _)) (ha.kept (((New.alloc _ _).alloc' _).alloc' _)) tb ta).mono ?_
  rintro e w1 ⟨rfl, H1⟩
  have hr := H1.out.rule
  have hfr := H1.out.frule
  have hle2 := HLE.out
  go_wp2_with fail
  generalize hV : (((w1.setCell ⟨w.heap.size, 0, none⟩ (.bool !neg)).setCell ⟨w.heap.size, 1, none⟩ (.slice ao2 b.length c2)).setCell ⟨w.heap.size + 1, 0, none⟩ (.bool neg)).setCell ⟨w.heap.size + 1, 1, none⟩ (.slice ao1 a.length c1) = V
  have HB : Hid (SubB w V (!neg) (.slice ao2 b.length c2) (.slice ao1 a.length c1) b a) := by
    rw [← hV]
    exact subB_swapped ha hb H1.out (by have := of_decide_eq_true HLE.out; omega)
  clear hV hr hfr H1 hle hle2
  go_loopw [10, 11, 12] (fun d c i wr => ∃ (k : Nat) (cv : Int) (v : Value) (ds : List Int), i = .int .i64 k ∧ c = .int .i64 cv ∧ d = v ∧ 0 ≤ cv ∧ cv ≤ 1 ∧ k ≤ b.length ∧ Hid (SubR w V wr (!neg) (.slice ao2 b.length c2) (.slice ao1 a.length c1) v b a ds k cv))
    (fun _ _ i _ => b.length - (intOf i).toNat)
  case atStart => exact ⟨0, 0, _, [], rfl, rfl, rfl, by omega, by omega, by omega, HB.out, SubI.start b a, World.ownsRow_nil _ _ _ _, New.refl V⟩
  case round =>
    obtain ⟨k, cv, v, ds, rfl, rfl, rfl, hc0, hc1, hk, H⟩ := hrel
    obtain ⟨ao, c, hv⟩ := own_shape H.out.gat.own
    subst hv
    have hlen : ds.length ≤ L := by have := H.out.inv.len; omega
    have qa1 := H.out.cells.1
    have qb1 := H.out.cells.2.1
    by_cases g1 : k < b.length
    · have HDr : Hid (∀ n, Dl (wr.drewN n) (.slice ao2 b.length c2) b ∧ Dl (wr.drewN n) (.slice ao1 a.length c1) a) := H.out.digits
      have ba0 := (dg_ok H.out.base.dx.ok k).1
      have ba1 := (dg_ok H.out.base.dx.ok k).2
      have bb0 := (dg_ok H.out.base.dy.ok k).1
      have bb1 := (dg_ok H.out.base.dy.ok k).2
      by_cases hs : dg b k - dg a k - cv < 0
      · skip
        go_wp2_with fail
        go_quiet (first | (go_at_call 58; exact Calls.quiet_of_same (digit_same _ b k _ (HDr.out _).1 (by omega))) | (go_at_call 58; exact Calls.quiet_of_same (digit_same _ a k _ (HDr.out _).2 (by omega))))
        go_wp2_with (at_builtin; refine wpList_append_own _ rfl _ _ 46 rfl V.heap.size 3 i0 (.int .i64 0) 1 8 Try.underlying46 hi hz0 hz1 hz2 rfl (by decide) _ _ _ rfl ((H.out.gat.drewN nq).own.alloc _) ⟨wr.heap.size, 0, none⟩ 1 1 [.int .i64 (dg b k - dg a k - cv + 1048576)] rfl rfl (cell_one_new _ _ _) ?c2 ?c3 ?c4 ?c5 ?_)
        case c2 => intro u hu; rw [List.mem_singleton.1 hu]; rfl
        case c3 => unfold maxLen; omega
        case c4 => omega
        case c5 => have := H.out.gat.new.size; simp; omega
        intro v' w2 hown1 hgroV hnil
        have HN : Hid (SubR w V w2 (!neg) (.slice ao2 b.length c2) (.slice ao1 a.length c1) v' b a (ds ++ [dg b k - dg a k - cv + 1048576]) (k + 1) 1) := H.out.next rfl (Or.inl ⟨by omega, rfl, rfl⟩) hgroV hown1
        obtain ⟨g', cap', rfl, _⟩ := own_form hown1 (by omega)
        clear hown1 hgroV hnil qa1 qb1
        go_wp2_with fail
        go_roundw
        case rel => exact ⟨k + 1, _, _, _, by go_num, rfl, rfl, by omega, by omega, by omega, HN.out⟩
        case measure => simp [intOf]; omega
      · skip
        go_wp2_with fail
        go_quiet (first | (go_at_call 58; exact Calls.quiet_of_same (digit_same _ b k _ (HDr.out _).1 (by omega))) | (go_at_call 58; exact Calls.quiet_of_same (digit_same _ a k _ (HDr.out _).2 (by omega))))
        go_wp2_with (at_builtin; refine wpList_append_own _ rfl _ _ 46 rfl V.heap.size 3 i0 (.int .i64 0) 1 8 Try.underlying46 hi hz0 hz1 hz2 rfl (by decide) _ _ _ rfl ((H.out.gat.drewN nq).own.alloc _) ⟨wr.heap.size, 0, none⟩ 1 1 [.int .i64 (dg b k - dg a k - cv)] rfl rfl (cell_one_new _ _ _) ?d2 ?d3 ?d4 ?d5 ?_)
        case d2 => intro u hu; rw [List.mem_singleton.1 hu]; rfl
        case d3 => unfold maxLen; omega
        case d4 => omega
        case d5 => have := H.out.gat.new.size; simp; omega
        intro v' w2 hown1 hgroV hnil
        have HN : Hid (SubR w V w2 (!neg) (.slice ao2 b.length c2) (.slice ao1 a.length c1) v' b a (ds ++ [dg b k - dg a k - cv]) (k + 1) 0) := H.out.next rfl (Or.inr ⟨by omega, rfl, rfl⟩) hgroV hown1
        obtain ⟨g', cap', rfl, _⟩ := own_form hown1 (by omega)
        clear hown1 hgroV hnil qa1 qb1
        go_wp2_with fail
        go_roundw
        case rel => exact ⟨k + 1, _, _, _, by go_num, rfl, rfl, by omega, by omega, by omega, HN.out⟩
        case measure => simp [intOf]; omega
    · have hk2 : k = b.length := by omega
      subst hk2
      have HD : Hid (∀ n, Dl (wr.drewN n) (.slice ao ds.length c) ds) := fun n => (own_dl H.out.gat.own H.out.inv.ok (by omega)).kept ((New.refl wr).drewN n)
      have HE : Hid (dv ds = dv b - dv a) := H.out.inv.done H.out.base.dy.ok H.out.base.le
      have hsz := H.out.base.size
      have q0 := H.out.cells.2.2
      have qr0 : wr.cell? ⟨w.heap.size + 1 + 1, 0, none⟩ = some (.bool false) := by rw [H.out.gat.new.rule _ _ (by omega)]; exact H.out.base.r0
      have qr1 : wr.cell? ⟨w.heap.size + 1 + 1, 1, none⟩ = some (.slice none 0 0) := by rw [H.out.gat.new.rule _ _ (by omega)]; exact H.out.base.r1
      have qf : ∀ o, wr.frozen? ⟨w.heap.size + 1 + 1, o, none⟩ = false := fun o => by rw [H.out.gat.new.frule _ _ (by omega)]; exact H.out.base.rf o
      clear qb1
      go_wp2_with fail
      have HDd : Hid (Dl wr.drew (.slice ao ds.length c) ds) := HD.out 1
      go_region_with (go_at_call 59; refine (trim_same _ ds _ HDd.out).mono ?_; rintro e w3 ⟨ao', c', ds', rfl, rfl, HT⟩)
      all_goals
        go_wp2_with fail
        refine bodyPost_ret (v := .agg #[.bool !neg, .slice ao' ds'.length c']) (by simp [results, Try.results41, go_sem, qr0, qr1]) rfl ?_
        exact (H.out.gat.drewN 1).answer' H.out.base.new (by omega) HT.out.1 (by rw [HT.out.2.2.2.2]; exact fun e => own_row H.out.gat.own (k := w.heap.size + 1 + 1) (by omega) e.symm) HT.out.2.2.1 (by rw [nv_sub (!neg) b a ds' (HT.out.2.1.trans HE.out), Bool.not_not]; omega) (by have := HT.out.2.2.2.1; omega)

/-- 'Add'. -/
theorem add_num (m n : Value) (x y : Int) (L : Nat) (w : World) (h1 : Nu w m x L) (h2 : Nu w n y L) (hL : L ≤ 900) :
    Calls Try.prog 41 #[m, n] w fun e w' => NuRet w (x + y) (L + 1) e w' := by
  obtain ⟨neg, va, a, rfl, da, ta, rfl, la⟩ := h1.ex
  obtain ⟨neg', vb, b, rfl, db, tb, rfl, lb⟩ := h2.ex
  obtain ⟨ao1, n1, c1, rfl, rfl⟩ := slice_val da
  obtain ⟨ao2, n2, c2, rfl, rfl⟩ := slice_val db
  by_cases hs : neg = neg'
  · subst hs
    exact add_alike neg ao1 ao2 c1 c2 a b L w da db ta tb la lb hL
  · have e : neg' = !neg := by cases neg <;> cases neg' <;> simp_all
    subst e
    cases hg : gtB b a with
    | true => exact add_swapped neg ao1 ao2 c1 c2 a b L w da db ta tb la lb hL hg
    | false => exact add_unlike neg ao1 ao2 c1 c2 a b L w da db ta tb la lb hL hg

end Go.Proofs.Ytgeoffpcmkofkaa
/- The walk of plumbref's 'Mul'. -/
namespace Go.Proofs.Ytgeoffpcmkofkaa
open Go.RowKit Fl Dg
set_option maxRecDepth 100000

/-- What holds in a round of 'Mul': the row of digits d lies at the head of block g. -/
structure MulR (w V wr : World) (g : Nat) (n1 n2 : Bool) (va vb : Value) (a b d : List Int) (i k : Nat) (c : Int) : Prop where
  new : New w V
  size : V.heap.size = w.heap.size + 3
  gV : g = V.heap.size
  x0 : V.cell? ⟨w.heap.size, 0, none⟩ = some (.bool n1)
  x1 : V.cell? ⟨w.heap.size, 1, none⟩ = some va
  y0 : V.cell? ⟨w.heap.size + 1, 0, none⟩ = some (.bool n2)
  y1 : V.cell? ⟨w.heap.size + 1, 1, none⟩ = some vb
  r0 : V.cell? ⟨w.heap.size + 1 + 1, 0, none⟩ = some (.bool false)
  r1 : V.cell? ⟨w.heap.size + 1 + 1, 1, none⟩ = some (.slice none 0 0)
  rf : ∀ o, V.frozen? ⟨w.heap.size + 1 + 1, o, none⟩ = false
  dx : Dl V va a
  dy : Dl V vb b
  inv : MulI a b i k d c
  own : wr.ownsRow V.heap.size 3 1 (.slice (some ⟨g, 0, none⟩) (a.length + b.length + 1) (a.length + b.length + 1)) (a.length + b.length + 1) (d.map (Value.int .i64))
  vnew : New V wr

section
variable {w V wr : World} {g : Nat} {n1 n2 : Bool} {va vb : Value} {a b d : List Int} {i k : Nat} {c : Int}

theorem MulR.digits (h : MulR w V wr g n1 n2 va vb a b d i k c) (n : Nat) : Dl (wr.drewN n) va a ∧ Dl (wr.drewN n) vb b :=
  ⟨h.dx.kept (h.vnew.drewN n), h.dy.kept (h.vnew.drewN n)⟩

theorem MulR.cells (h : MulR w V wr g n1 n2 va vb a b d i k c) :
    wr.cell? ⟨w.heap.size, 0, none⟩ = some (.bool n1) ∧ wr.cell? ⟨w.heap.size, 1, none⟩ = some va ∧ wr.cell? ⟨w.heap.size + 1, 0, none⟩ = some (.bool n2) ∧ wr.cell? ⟨w.heap.size + 1, 1, none⟩ = some vb ∧
    wr.cell? ⟨w.heap.size + 1 + 1, 0, none⟩ = some (.bool false) ∧ wr.cell? ⟨w.heap.size + 1 + 1, 1, none⟩ = some (.slice none 0 0) ∧ (∀ o, wr.frozen? ⟨w.heap.size + 1 + 1, o, none⟩ = false) := by
  have hs := h.size
  refine ⟨?_, ?_, ?_, ?_, ?_, ?_, ?_⟩
  · rw [h.vnew.rule _ _ (by omega)]; exact h.x0
  · rw [h.vnew.rule _ _ (by omega)]; exact h.x1
  · rw [h.vnew.rule _ _ (by omega)]; exact h.y0
  · rw [h.vnew.rule _ _ (by omega)]; exact h.y1
  · rw [h.vnew.rule _ _ (by omega)]; exact h.r0
  · rw [h.vnew.rule _ _ (by omega)]; exact h.r1
  · intro o; rw [h.vnew.frule _ _ (by omega)]; exact h.rf o

theorem MulR.dcell (h : MulR w V wr g n1 n2 va vb a b d i k c) {j : Nat} (hj : j < a.length + b.length + 1) : wr.cell? ⟨g, j, none⟩ = some (.int .i64 (dg d j)) := by
  have hl := h.inv.len
  rw [h.own.cellAt j (by omega), List.getElem?_map, dg, List.getD_eq_getElem?_getD, List.getElem?_eq_getElem (by omega)]; rfl

theorem MulR.acell (h : MulR w V wr g n1 n2 va vb a b d i k c) (hi : i < a.length) : ∃ ga ca, va = .slice (some ⟨ga, 0, none⟩) a.length ca ∧ a.length ≤ ca ∧ wr.cell? ⟨ga, i, none⟩ = some (.int .i64 (dg a i)) := by
  have hd := h.dx.kept h.vnew
  rcases hd.shape with ⟨_, h2⟩ | ⟨ga, ca, h1, h2, _, h3⟩
  · rw [h2] at hi; simp at hi
  · refine ⟨ga, ca, h1, h2, ?_⟩
    rw [h3 i hi, dg, List.getD_eq_getElem?_getD, List.getElem?_eq_getElem hi]; rfl

theorem MulR.next (h : MulR w V wr g n1 n2 va vb a b d i k c) (hi : i < a.length) (hk : k ≤ b.length) (n : Nat) {s : Int} (hs : s = dg d (i + k) + dg a i * dg b k + c) :
    MulR w V ((wr.drewN n).setCell ⟨g, i + k, none⟩ (.int .i64 (s % 1048576))) g n1 n2 va vb a b (d.set (i + k) (s % 1048576)) i (k + 1) (s / 1048576) ∧ 0 ≤ s ∧ s < 1099511627776 := by
  have hm := h.inv.next h.dx.ok h.dy.ok hi hk hs
  have own1 : (wr.drewN n).ownsRow V.heap.size 3 1 (.slice (some ⟨g, 0, none⟩) (a.length + b.length + 1) (a.length + b.length + 1)) (a.length + b.length + 1) (d.map (Value.int .i64)) := h.own
  have st := own1.stored (i + k) (.int .i64 (s % 1048576))
  refine ⟨⟨h.new, h.size, h.gV, h.x0, h.x1, h.y0, h.y1, h.r0, h.r1, h.rf, h.dx, h.dy, hm.1, ?_, ?_⟩, hm.2.1, hm.2.2⟩
  · rw [List.map_set]; exact st.1
  · exact (h.vnew.drewN n).trans st.2 (by rintro g' ⟨⟩; rw [h.gV]; exact Nat.le_refl _)

theorem MulR.outer (h : MulR w V wr g n1 n2 va vb a b d i k 0) (hi : i < a.length) (hk : b.length ≤ k) : MulR w V wr g n1 n2 va vb a b d (i + 1) 0 0 :=
  ⟨h.new, h.size, h.gV, h.x0, h.x1, h.y0, h.y1, h.r0, h.r1, h.rf, h.dx, h.dy, h.inv.outer hi hk, h.own, h.vnew⟩

theorem MulR.dl (h : MulR w V wr g n1 n2 va vb a b d i k c) (hf : a.length + b.length + 1 ≤ 1000) (n : Nat) : Dl (wr.drewN n) (.slice (some ⟨g, 0, none⟩) (a.length + b.length + 1) (a.length + b.length + 1)) d := by
  have hl := h.inv.len
  refine ⟨?_, h.inv.ok, by omega⟩
  rw [hl]
  refine ⟨h.own.1, ?_⟩
  rcases h.own.2 with h1 | ⟨g', cap', cur, h1, _, h2⟩
  · exact Or.inl h1
  · exact Or.inr ⟨g', cap', cur, h1, Nat.zero_le _, h2⟩
end

theorem num_answer {w wr : World} (hnw : New w wr) {R : Nat} (h1 : w.heap.size ≤ R) {neg : Bool} {x : Int} {L : Nat} {v' : Value} {ds' : List Int} (hd : Dl wr v' ds') (hR : v'.ownBlock ≠ some R) (ht : Tr ds') (hx : x = nv neg ds') (hL : ds'.length ≤ L) :
    NuRet w x L (.returned (.agg #[.bool neg, v'])) ((wr.setCell ⟨R, 0, none⟩ (.bool neg)).setCell ⟨R, 1, none⟩ v') := by
  have hb : Below w.heap.size w wr := ⟨hnw.os, hnw.tape, hnw.output, hnw.size, fun k hk => hnw.block k hk (by simp)⟩
  have hb2 := (hb.setCell (p := ⟨R, 0, none⟩) h1 (.bool neg)).setCell (p := ⟨R, 1, none⟩) h1 v'
  have o1 := ownsRow_setCell_other (ownsRow_setCell_other hd.own (a := ⟨R, 0, none⟩) hR (.bool neg)) (a := ⟨R, 1, none⟩) hR v'
  exact NuRet.mk ⟨⟨neg, v', ds', rfl, ⟨o1, hd.ok, hd.few⟩, ht, hx, hL⟩⟩ (Below.new hb2)

theorem nv_mul (n1 n2 : Bool) (a b d : List Int) (h : dv d = dv a * dv b) : nv (n1 != n2) d = nv n1 a * nv n2 b := by
  cases n1 <;> cases n2 <;> simp [nv, h] <;> grind

set_option maxHeartbeats 6400000 in
theorem mul_walk (n1 n2 : Bool) (ao1 ao2 : Option Addr) (c1 c2 : Nat) (a b : List Int) (L M : Nat) (w : World) (ha : Dl w (.slice ao1 a.length c1) a) (hb : Dl w (.slice ao2 b.length c2) b) (la : a.length ≤ L) (lb : b.length ≤ M) (hL : L + M ≤ 900) :
    Calls Try.prog 38 #[.agg #[.bool n1, .slice ao1 a.length c1], .agg #[.bool n2, .slice ao2 b.length c2]] w fun e w' => NuRet w (nv n1 a * nv n2 b) (L + M + 1) e w' := by
  obtain ⟨i0, hi0, hz0, hz1, hz2⟩ := info_parts Try.info3
  obtain ⟨V, hV⟩ : ∃ V, V = ((w.alloc (.cells #[.bool n1, .slice ao1 a.length c1] 55)).alloc (.cells #[.bool n2, .slice ao2 b.length c2] 55)).alloc (.cells #[.bool false, .slice none 0 0] 55) := ⟨_, rfl⟩
  have HV : Hid (V = ((w.alloc (.cells #[.bool n1, .slice ao1 a.length c1] 55)).alloc (.cells #[.bool n2, .slice ao2 b.length c2] 55)).alloc (.cells #[.bool false, .slice none 0 0] 55)) := hV
  clear hV
  go_enter Try.func38, Try.ntmps38
  go_wp2_with (at_make; refine wpList_make_full _ rfl _ _ 46 rfl V.heap.size 3 i0 (.int .i64 0) 1 Try.underlying46 hi0 hz0 hz1 _ _ _ _ (a.length + b.length + 1) rfl rfl (by omega) (by omega) ?b2 ?b3 ?b4 ?_)
  case b2 => rw [hz2]; omega
  case b3 => unfold maxLen; omega
  case b4 => rw [HV.out]; exact Nat.le_refl _
  intro w0 hown0 hgrow0
  have HR : Hid (MulR w V w0 (w.heap.size + 1 + 1 + 1) n1 n2 (.slice ao1 a.length c1) (.slice ao2 b.length c2) a b (List.replicate (a.length + b.length + 1) 0) 0 0 0) := by
    have hN : New w V := by rw [HV.out]; exact ((New.alloc _ _).alloc' _).alloc' _
    have hg : New V w0 := by rw [HV.out]; exact hgrow0
    refine ⟨hN, by rw [HV.out]; simp, by rw [HV.out]; simp, ?_, ?_, ?_, ?_, ?_, ?_, ?_, ha.kept hN, hb.kept hN, MulI.start a b, ?_, hg⟩
    · rw [HV.out]; go_simp
    · rw [HV.out]; go_simp
    · rw [HV.out]; go_simp
    · rw [HV.out]; go_simp
    · rw [HV.out]; go_simp
    · rw [HV.out]; go_simp
    · intro o; rw [HV.out]; go_simp
    · have e1 : (madeCells #[Value.int .i64 0] (a.length + b.length + 1)).toList = (List.replicate (a.length + b.length + 1) (0 : Int)).map (Value.int .i64) := by
        rw [List.map_replicate]; exact toList_madeCells_one _ _
      rw [← e1]
      exact hown0
  clear hown0 hgrow0 ha hb
  have HOK : Hid (Dok a ∧ Dok b) := ⟨HR.out.dx.ok, HR.out.dy.ok⟩
  go_wp2_with fail
  go_loopw [6] (fun ii wr => ∃ (i : Nat) (d : List Int), ii = .int .i64 i ∧ i ≤ a.length ∧ Hid (MulR w V wr (w.heap.size + 1 + 1 + 1) n1 n2 (.slice ao1 a.length c1) (.slice ao2 b.length c2) a b d i 0 0))
    (fun ii _ => a.length - (intOf ii).toNat)
  case atStart => exact ⟨0, _, rfl, Nat.zero_le _, HR.out⟩
  case round =>
    obtain ⟨i, d0, rfl, hile, H0⟩ := hrel
    have qa1 := H0.out.cells.2.1
    by_cases hi : i < a.length
    · go_wp2_with fail
      go_loopw [7, 8] (fun cc kk wr => ∃ (k : Nat) (cv : Int) (d : List Int), kk = .int .i64 k ∧ cc = .int .i64 cv ∧ 0 ≤ cv ∧ cv < 1048576 ∧ k ≤ b.length + 1 ∧ Hid (MulR w V wr (w.heap.size + 1 + 1 + 1) n1 n2 (.slice ao1 a.length c1) (.slice ao2 b.length c2) a b d i k cv))
        (fun _ kk _ => b.length + 1 - (intOf kk).toNat)
      case atStart => exact ⟨0, 0, d0, rfl, rfl, by omega, by omega, by omega, H0.out⟩
      case round =>
        clear qa1 H0
        obtain ⟨k, cv, d, rfl, rfl, hc0, hc1, hk, H⟩ := hrel
        have qa1 := H.out.cells.2.1
        have qb1 := H.out.cells.2.2.2.1
        by_cases g1 : k < b.length
        · have HGO : k < b.length ∨ 0 < cv := Or.inl g1
          have hkb : k ≤ b.length := H.out.inv.place HOK.out.1 HOK.out.2 hi HGO
          obtain ⟨ga, ca, hva, hca, hac⟩ := H.out.acell hi
          have hao : ao1 = some ⟨ga, 0, none⟩ := by simpa using (Value.slice.inj hva).1
          subst hao
          have hdc := H.out.dcell (j := i + k) (by omega)
          have hdf := H.out.own.frozenAt (i + k)
          have HDr : Hid (∀ n, Dl (wr.drewN n) (.slice (some ⟨ga, 0, none⟩) a.length c1) a ∧ Dl (wr.drewN n) (.slice ao2 b.length c2) b) := H.out.digits
          have HNx : Hid (∀ n, MulR w V ((wr.drewN n).setCell ⟨w.heap.size + 1 + 1 + 1, i + k, none⟩ (.int .i64 ((dg d (i + k) + dg a i * dg b k + cv) % 1048576))) (w.heap.size + 1 + 1 + 1) n1 n2 (.slice (some ⟨ga, 0, none⟩) a.length c1) (.slice ao2 b.length c2) a b (d.set (i + k) ((dg d (i + k) + dg a i * dg b k + cv) % 1048576)) i (k + 1) ((dg d (i + k) + dg a i * dg b k + cv) / 1048576)) := fun n => (H.out.next hi hkb n rfl).1
          have hac1 : a.length ≤ c1 := by have := (Value.slice.inj hva).2.2; omega
          have x0 := (dg_ok HOK.out.1 i).1
          have x1 := (dg_ok HOK.out.1 i).2
          have y0 := (dg_ok HOK.out.2 k).1
          have y1 := (dg_ok HOK.out.2 k).2
          have z0 := (dg_ok H.out.inv.ok (i + k)).1
          have z1 := (dg_ok H.out.inv.ok (i + k)).2
          have p0 : 0 ≤ dg a i * dg b k := Int.mul_nonneg x0 y0
          have p1 : dg a i * dg b k ≤ 1048575 * 1048575 := Int.mul_le_mul (by omega) (by omega) y0 (by omega)
          have hva2 : Hid (ca = c1) := by have := (Value.slice.inj hva).2.2; exact this.symm
          clear hva hac1
          have hix0 : (0 : Int) ≤ (i : Int) + k := by omega
          have hix1 : (i : Int) + k < ((a.length + b.length + 1 : Nat) : Int) := by omega
          have hia1 : (i : Int) < (a.length : Int) := by omega
          go_wp2_with fail
          go_quiet ((go_at_call 58; exact Calls.quiet_of_same (digit_same _ b k _ (HDr.out _).2 (by omega))))
          go_wp2_with fail
          go_roundw
          case rel => exact ⟨k + 1, _, _, by go_num, rfl, by omega, by omega, by omega, HNx.out _⟩
          case measure => simp [intOf]; omega
        · by_cases g2 : 0 < cv
          · have HGO : k < b.length ∨ 0 < cv := Or.inr g2
            have hkb : k ≤ b.length := H.out.inv.place HOK.out.1 HOK.out.2 hi HGO
            obtain ⟨ga, ca, hva, hca, hac⟩ := H.out.acell hi
            have hao : ao1 = some ⟨ga, 0, none⟩ := by simpa using (Value.slice.inj hva).1
            subst hao
            have hdc := H.out.dcell (j := i + k) (by omega)
            have hdf := H.out.own.frozenAt (i + k)
            have HDr : Hid (∀ n, Dl (wr.drewN n) (.slice (some ⟨ga, 0, none⟩) a.length c1) a ∧ Dl (wr.drewN n) (.slice ao2 b.length c2) b) := H.out.digits
            have HNx : Hid (∀ n, MulR w V ((wr.drewN n).setCell ⟨w.heap.size + 1 + 1 + 1, i + k, none⟩ (.int .i64 ((dg d (i + k) + dg a i * dg b k + cv) % 1048576))) (w.heap.size + 1 + 1 + 1) n1 n2 (.slice (some ⟨ga, 0, none⟩) a.length c1) (.slice ao2 b.length c2) a b (d.set (i + k) ((dg d (i + k) + dg a i * dg b k + cv) % 1048576)) i (k + 1) ((dg d (i + k) + dg a i * dg b k + cv) / 1048576)) := fun n => (H.out.next hi hkb n rfl).1
            have hac1 : a.length ≤ c1 := by have := (Value.slice.inj hva).2.2; omega
            have x0 := (dg_ok HOK.out.1 i).1
            have x1 := (dg_ok HOK.out.1 i).2
            have y0 := (dg_ok HOK.out.2 k).1
            have y1 := (dg_ok HOK.out.2 k).2
            have z0 := (dg_ok H.out.inv.ok (i + k)).1
            have z1 := (dg_ok H.out.inv.ok (i + k)).2
            have p0 : 0 ≤ dg a i * dg b k := Int.mul_nonneg x0 y0
            have p1 : dg a i * dg b k ≤ 1048575 * 1048575 := Int.mul_le_mul (by omega) (by omega) y0 (by omega)
            have hva2 : Hid (ca = c1) := by have := (Value.slice.inj hva).2.2; exact this.symm
            clear hva hac1
            have hix0 : (0 : Int) ≤ (i : Int) + k := by omega
            have hix1 : (i : Int) + k < ((a.length + b.length + 1 : Nat) : Int) := by omega
            have hia1 : (i : Int) < (a.length : Int) := by omega
            go_wp2_with fail
            go_quiet ((go_at_call 58; exact Calls.quiet_of_same (digit_same _ b k _ (HDr.out _).2 (by omega))))
            go_wp2_with fail
            go_roundw
            case rel => exact ⟨k + 1, _, _, by go_num, rfl, by omega, by omega, by omega, HNx.out _⟩
            case measure => simp [intOf]; omega
          · have hz : cv = 0 := by omega
            subst hz
            go_wp2_with fail
            go_roundw
            case rel => exact ⟨i + 1, d, by go_num, hi, H.out.outer hi (by omega)⟩
            case measure => simp [intOf]; omega
    · have hi2 : i = a.length := by omega
      subst hi2
      have q0 := H0.out.cells.1
      have p0 := H0.out.cells.2.2.1
      have qr0 := H0.out.cells.2.2.2.2.1
      have qr1 := H0.out.cells.2.2.2.2.2.1
      have qf := H0.out.cells.2.2.2.2.2.2
      have HDd : Hid (Dl wr.drew (.slice (some ⟨w.heap.size + 1 + 1 + 1, 0, none⟩) (a.length + b.length + 1) (a.length + b.length + 1)) d0) := H0.out.dl (by omega) 1
      go_wp2_with fail
      go_region_with (go_at_call 59; refine (trim_same _ d0 _ HDd.out).mono ?_; rintro e w3 ⟨ao', c', ds', rfl, rfl, HT⟩)
      all_goals
        go_wp2_with fail
        refine bodyPost_ret (v := .agg #[.bool (!(n1 == n2)), .slice ao' ds'.length c']) (by simp [results, Try.results38, go_sem, qr0, qr1]) rfl ?_
        exact num_answer ((H0.out.new.trans' H0.out.vnew).drewN 1) (by omega) HT.out.1 (by rw [HT.out.2.2.2.2]; simp [Value.ownBlock]) HT.out.2.2.1 (nv_mul n1 n2 a b ds' (HT.out.2.1.trans H0.out.inv.done)).symm (by have := HT.out.2.2.2.1; have := H0.out.inv.len; omega)

theorem mul_num (m n : Value) (x y : Int) (L M : Nat) (w : World) (h1 : Nu w m x L) (h2 : Nu w n y M) (hL : L + M ≤ 900) :
    Calls Try.prog 38 #[m, n] w fun e w' => NuRet w (x * y) (L + M + 1) e w' := by
  obtain ⟨neg, va, a, rfl, da, ta, rfl, la⟩ := h1.ex
  obtain ⟨neg', vb, b, rfl, db, tb, rfl, lb⟩ := h2.ex
  obtain ⟨ao1, n1, c1, rfl, rfl⟩ := slice_val da
  obtain ⟨ao2, n2, c2, rfl, rfl⟩ := slice_val db
  exact mul_walk neg neg' ao1 ao2 c1 c2 a b L M w da db la lb hL

end Go.Proofs.Ytgeoffpcmkofkaa
/- The walks of plumbref's 'gap', 'Side', 'Bad'. -/
namespace Go.Proofs.Ytgeoffpcmkofkaa
open Go.RowKit Fl Dg
set_option maxRecDepth 100000

theorem nu_form {w : World} {n : Value} {x : Int} {L : Nat} (h : Nu w n x L) : ∃ (neg : Bool) (ao : Option Addr) (m c : Nat), n = .agg #[.bool neg, .slice ao m c] := by
  obtain ⟨neg, v, ds, rfl, h1, _⟩ := h.ex
  obtain ⟨ao, m, c, rfl, _⟩ := slice_val h1
  exact ⟨neg, ao, m, c, rfl⟩

/-- A contract's answer, written out. -/
theorem NuRet.open {w : World} {x : Int} {L : Nat} {e : Ending} {w' : World} (h : NuRet w x L e w') : ∃ (neg : Bool) (ao : Option Addr) (m c : Nat), e = .returned (.agg #[.bool neg, .slice ao m c]) ∧ Hid (Nu w' (.agg #[.bool neg, .slice ao m c]) x L ∧ New w w') := by
  obtain ⟨n, rfl, H⟩ := h
  obtain ⟨neg, ao, m, c, rfl⟩ := nu_form H.out.1
  exact ⟨neg, ao, m, c, rfl, H⟩

theorem of_num' (n : Int) (w : World) (h : Cd n) : Calls Try.prog 60 #[.int .i64 n] w fun e w' => ∃ (neg : Bool) (ao : Option Addr) (m c : Nat), e = .returned (.agg #[.bool neg, .slice ao m c]) ∧ Hid (Nu w' (.agg #[.bool neg, .slice ao m c]) n 3 ∧ New w w') :=
  (of_num n w h).mono fun _ _ h => h.open
theorem minus_num' {n : Value} {x : Int} {L : Nat} {w : World} (h : Nu w n x L) : Calls Try.prog 42 #[n] w fun e w' => ∃ (neg : Bool) (ao : Option Addr) (m c : Nat), e = .returned (.agg #[.bool neg, .slice ao m c]) ∧ Hid (Nu w' (.agg #[.bool neg, .slice ao m c]) (-x) L ∧ New w w') :=
  (minus_num n x L w h).mono fun _ _ h => h.open
theorem add_num' {m n : Value} {x y : Int} {L : Nat} {w : World} (h1 : Nu w m x L) (h2 : Nu w n y L) (hL : L ≤ 900) : Calls Try.prog 41 #[m, n] w fun e w' => ∃ (neg : Bool) (ao : Option Addr) (k c : Nat), e = .returned (.agg #[.bool neg, .slice ao k c]) ∧ Hid (Nu w' (.agg #[.bool neg, .slice ao k c]) (x + y) (L + 1) ∧ New w w') :=
  (add_num m n x y L w h1 h2 hL).mono fun _ _ h => h.open
theorem mul_num' {m n : Value} {x y : Int} {L M : Nat} {w : World} (h1 : Nu w m x L) (h2 : Nu w n y M) (hL : L + M ≤ 900) : Calls Try.prog 38 #[m, n] w fun e w' => ∃ (neg : Bool) (ao : Option Addr) (k c : Nat), e = .returned (.agg #[.bool neg, .slice ao k c]) ∧ Hid (Nu w' (.agg #[.bool neg, .slice ao k c]) (x * y) (L + M + 1) ∧ New w w') :=
  (mul_num m n x y L M w h1 h2 hL).mono fun _ _ h => h.open

/-- A number is stored into the block R, where nothing of it lies. -/
theorem nu_stored {w wr : World} (hnw : New w wr) {R : Nat} (h1 : w.heap.size ≤ R) {neg : Bool} {ao : Option Addr} {m c : Nat} {x : Int} {L : Nat} (hd : Nu wr (.agg #[.bool neg, .slice ao m c]) x L) (hR : wr.heap[R]? = some (.cells #[.bool false, .slice none 0 0] 55 (0, 0))) :
    NuRet w x L (.returned (.agg #[.bool neg, .slice ao m c])) ((wr.setCell ⟨R, 0, none⟩ (.bool neg)).setCell ⟨R, 1, none⟩ (.slice ao m c)) := by
  obtain ⟨neg', v, ds, e, h2, h3, h4, h5⟩ := hd.ex
  cases e
  refine num_answer hnw h1 h2 ?_ h3 h4 h5
  intro e
  rcases h2.own.2 with ⟨h6, _⟩ | ⟨g, cap, cur, h6, _, h7, _⟩
  · rw [h6] at e; cases e
  · rw [h6] at e
    simp only [Value.ownBlock, Option.some.injEq] at e
    subst e
    rw [h7] at hR
    simp at hR

set_option maxHeartbeats 800000 in
theorem gap_any (a b : Int) (w : World) (ha : Cd a) (hb : Cd b) :
    Calls Try.prog 39 #[.int .i64 a, .int .i64 b] w fun e w' => NuRet w (a - b) 4 e w' := by
  go_enter Try.func39, Try.ntmps39
  go_wp2_with fail
  refine (of_num' a _ ha).mono ?_
  rintro e w1 ⟨n1, ao1, m1, c1, rfl, H1⟩
  go_wp2_with fail
  refine (of_num' b _ hb).mono ?_
  rintro e w2 ⟨n2, ao2, m2, c2, rfl, H2⟩
  go_wp2_with fail
  refine (minus_num' H2.out.1).mono ?_
  rintro e w3 ⟨n3, ao3, m3, c3, rfl, H3⟩
  go_wp2_with fail
  refine (add_num' ((H1.out.1.kept H2.out.2).kept H3.out.2) H3.out.1 (by omega)).mono ?_
  rintro e w4 ⟨n4, ao4, m4, c4, rfl, H4⟩
  have HN : Hid (New (w.alloc (.cells #[.bool false, .slice none 0 0] 55)) w4) := ((H1.out.2.trans' H2.out.2).trans' H3.out.2).trans' H4.out.2
  have hR : w4.heap[w.heap.size]? = some (.cells #[.bool false, .slice none 0 0] 55 (0, 0)) := by
    rw [HN.out.block _ (by simp) (by simp)]; exact _root_.Go.heap_alloc_new w _
  have qr0 := pair_cell0 hR
  have qr1 := pair_cell1 hR
  have qf0 := pair_free (o := 0) hR
  have qf1 := pair_free (o := 1) hR
  have HR : Hid (w4.heap[w.heap.size]? = some (.cells #[.bool false, .slice none 0 0] 55 (0, 0))) := hR
  clear hR
  go_wp2_with fail
  refine bodyPost_ret (v := .agg #[.bool n4, .slice ao4 m4 c4]) (by simp [results, Try.results39, go_sem, qr0, qr1]) rfl ?_
  have hx : a - b = a + -b := by omega
  rw [hx]
  exact nu_stored ((New.alloc w _).trans' HN.out) (Nat.le_refl _) H4.out.1 HR.out

end Go.Proofs.Ytgeoffpcmkofkaa
