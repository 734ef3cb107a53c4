/- The walk of 'flip' of package mesh. -/
import Derived.Test.YtgeoffpcmkofkaaGreatNc
import Derived.Deep.RegionHeld3
namespace Go.Proofs.YtgeoffpcmkofkaaGreat
open Go.RowKit Go.Maps Fl
set_option maxRecDepth 100000
attribute [local go_sem ↓] Go.wp_at_zero Go.wp_at_succ

/-- A directed side's cells. -/
def encE (e : Ed) : List Value := [.int .i64 e.1.1, .int .i64 e.1.2, .int .i64 e.2.1, .int .i64 e.2.2]

set_option maxHeartbeats 1600000 in
theorem flip_any (b n : Nat) (m : Ms) (u v l r : Pt) (w : World) (h : MapE w b n m) (hn : n + 6 < maxLen) (hl : m (u, v) = some l) (hr : m (v, u) = some r) (hv : Vals m) :
    Calls Tryz.prog 48 #[.map (some b), .agg #[.int .i64 u.1, .int .i64 u.2, .int .i64 v.1, .int .i64 v.2]] w fun e w' =>
      ∃ g, e = .returned (.slice (some ⟨g, 0, none⟩) 4 4) ∧ Hid (MapE w' b (n + 6) (flipM m u v l r) ∧ w.grownBy w' (some b) ∧ w.heap.size ≤ g ∧ w'.heap[g]? = some (.cells ([(u, r), (r, v), (v, l), (l, u)].flatMap encE).toArray 65 (0, 0))) := by
  have H : Hid (MapE w b n m) := h
  have HM0 : Hid (MapE w b n m) := h
  have hr0 := hr
  have he : Hid (CdE (u, v)) := h.sup hl
  have hvl : Hid (CdP l ∧ CdP r) := ⟨hv _ _ hl, hv _ _ hr⟩
  have hb := h.lt
  clear h hv
  go_enter Tryz.func48, Tryz.ntmps48
  go_wp2_with fail
  go_cut [5, 6] from 9 to 12 (fun s5 s6 wx => ∃ b1 b2 : Nat, s5 = .pointer (some ⟨b1, 0, none⟩) ∧ s6 = .pointer (some ⟨b2, 0, none⟩) ∧ Hid (New w wx ∧ BoxE wx w.heap.size (u, v) ∧ BoxP wx b1 u ∧ BoxP wx b2 v ∧ w.heap.size ≤ b1 ∧ w.heap.size ≤ b2))
  case first =>
    go_region_held3 (fun w' => w'.cell? ⟨w.heap.size, 0, none⟩ = some (.int .i64 u.1) ∧ w'.cell? ⟨w.heap.size, 1, none⟩ = some (.int .i64 u.2) ∧ w'.cell? ⟨w.heap.size, 2, none⟩ = some (.int .i64 v.1) ∧ w'.cell? ⟨w.heap.size, 3, none⟩ = some (.int .i64 v.2))
      (go_keep) (first | fail)
    · go_wp2_with fail
      go_meet
      exact ⟨_, _, rfl, rfl, (((New.refl w).alloc' _).alloc' _).alloc' _ |>.drewN 1, ⟨by go_simp, by go_simp, by go_simp, by go_simp⟩, ⟨by go_simp, by go_simp⟩, ⟨by go_simp, by go_simp⟩, by omega, by omega⟩
    · go_wp2_with fail
      go_meet
      exact ⟨_, _, rfl, rfl, (((New.refl w).alloc' _).alloc' _).alloc' _ |>.drewN 1, ⟨by go_simp, by go_simp, by go_simp, by go_simp⟩, ⟨by go_simp, by go_simp⟩, ⟨by go_simp, by go_simp⟩, by omega, by omega⟩
  case rest =>
    obtain ⟨b1, b2, rfl, rfl, HC⟩ := hcut
    go_wp2_with fail
    go_cut [7, 8] from 13 to 19 (fun s7 s8 wx => ∃ b3 b4 : Nat, s7 = .pointer (some ⟨b3, 0, none⟩) ∧ s8 = .pointer (some ⟨b4, 0, none⟩) ∧ Hid (New w wx ∧ BoxE wx w.heap.size (u, v) ∧ BoxP wx b1 u ∧ BoxP wx b2 v ∧ BoxP wx b3 l ∧ BoxP wx b4 r ∧ w.heap.size ≤ b3 ∧ w.heap.size ≤ b4))
    case first =>
      refine wp_region_inv (by kernel_rfl) (fun listed a' w' => ∃ (p : Fin 2 → Value) (q : Fin 7 → Value), a' = { tmps := #[.map (some b), .agg #[.int .i64 u.1, .int .i64 u.2, .int .i64 v.1, .int .i64 v.2], undef, .pointer (some ⟨w.heap.size, 0, none⟩), .slice none 0 0, .pointer (some ⟨b1, 0, none⟩), .pointer (some ⟨b2, 0, none⟩), p 0, p 1, u9, u10, u11, u12, q 0, q 1, q 2, q 3, q 4, q 5, q 6, undef, undef, undef, undef, undef, undef, undef, undef, undef, undef, undef, undef, undef, undef, undef, undef, undef, undef, undef, undef, undef, undef, undef, undef, undef, undef, undef, undef], defers := [] } ∧ Hid (Duo wc w' (fun j => if j = 0 then l else r) (fun j => if j = 0 then .map (some b) else if j = 1 then .agg #[.int .i64 u.1, .int .i64 u.2, .int .i64 v.1, .int .i64 v.2] else if j = 2 then .agg #[.int .i64 l.1, .int .i64 l.2] else if j = 3 then .map (some b) else if j = 4 then .agg #[.int .i64 u.1, .int .i64 u.2, .int .i64 v.1, .int .i64 v.2] else if j = 5 then .agg #[.int .i64 v.1, .int .i64 v.2, .int .i64 u.1, .int .i64 u.2] else .agg #[.int .i64 r.1, .int .i64 r.2]) listed p q)) ?hac ?hg ?start ?step ?fin
      case hac => exact edges_ok (by kernel_rfl)
      case hg => exact guards_ok (by kernel_rfl)
      case start => exact ⟨fun _ => undef, fun _ => undef, rfl, Duo.start ((New.refl wc).drewN 1) _⟩
      case step =>
        rintro listed a' wr i o ⟨p, q, rfl, H⟩ ho hr
        have hm := hr.mine
        have hah := hr.ahead
        have hM := HM0.out.new (HC.out.1.trans' H.out.new)
        have l1 : (Instr.lookup 51 (.map (some b)) (.agg #[.int .i64 u.1, .int .i64 u.2, .int .i64 v.1, .int .i64 v.2]) false).run Tryz.prog wr = .ok (.agg #[.int .i64 l.1, .int .i64 l.2]) wr := by
          have := hM.look (e := (u, v)) he.out
          rw [show atM m (u, v) = l by simp [atM, hl]] at this
          exact this
        have l2 : (Instr.lookup 51 (.map (some b)) (.agg #[.int .i64 v.1, .int .i64 v.2, .int .i64 u.1, .int .i64 u.2]) false).run Tryz.prog wr = .ok (.agg #[.int .i64 r.1, .int .i64 r.2]) wr := by
          have := hM.look (e := (v, u)) ⟨he.out.2, he.out.1⟩
          rw [show atM m (v, u) = r by simp [atM, hr0]] at this
          exact this
        obtain ⟨x0, x1, x2, x3⟩ := HC.out.2.1.new H.out.new
        clear hr hM
        match i, ho with
        | 0, ho =>
          obtain rfl := Option.some.inj (show some _ = some o from ho)
          refine wpK fun K' hK => ?_
          clear hah ho
          have HM : Hid (listed.getD 0 true = false) := hm
          clear hm
          go_simp
          exact hK.out _ _ ⟨p, updN q 0 (.map (some b)), rfl, H.out.qq 0 HM.out (New.refl _) rfl⟩
        | 1, ho =>
          obtain rfl := Option.some.inj (show some _ = some o from ho)
          refine wpK fun K' hK => ?_
          clear hah ho
          have HM : Hid (listed.getD 1 true = false) := hm
          clear hm
          go_simp
          exact hK.out _ _ ⟨p, updN q 1 (.agg #[.int .i64 u.1, .int .i64 u.2, .int .i64 v.1, .int .i64 v.2]), rfl, H.out.qq 1 HM.out (New.refl _) rfl⟩
        | 2, ho =>
          obtain rfl := Option.some.inj (show some _ = some o from ho)
          have d0 : q 0 = .map (some b) := H.out.val 0 (hah ⟨0, .data⟩ (by simp) rfl)
          have d1 : q 1 = .agg #[.int .i64 u.1, .int .i64 u.2, .int .i64 v.1, .int .i64 v.2] := H.out.val 1 (hah ⟨1, .data⟩ (by simp) rfl)
          have HM : Hid (listed.getD 2 true = false) := hm
          clear hah ho hm
          refine wpK fun K' hK => ?_
          unfold Oper.wp
          simp [execOp, Act.eval, d0, d1, l1, Result.andThen, go_sem]
          refine cast (congrArg (fun a => K' a _) ?_) (hK.out _ _ ⟨p, updN q 2 (.agg #[.int .i64 l.1, .int .i64 l.2]), rfl, H.out.qq 2 HM.out (New.refl _) rfl⟩)
          simp [updN, d0, d1]
        | 3, ho =>
          obtain rfl := Option.some.inj (show some _ = some o from ho)
          refine wpK fun K' hK => ?_
          clear hah ho
          have HM : Hid (listed.getD 3 true = false) := hm
          clear hm
          go_simp
          exact hK.out _ _ ⟨p, updN q 3 (.map (some b)), rfl, H.out.qq 3 HM.out (New.refl _) rfl⟩
        | 4, ho =>
          obtain rfl := Option.some.inj (show some _ = some o from ho)
          refine wpK fun K' hK => ?_
          clear hah ho
          have HM : Hid (listed.getD 4 true = false) := hm
          clear hm
          go_simp
          exact hK.out _ _ ⟨p, updN q 4 (.agg #[.int .i64 u.1, .int .i64 u.2, .int .i64 v.1, .int .i64 v.2]), rfl, H.out.qq 4 HM.out (New.refl _) rfl⟩
        | 5, ho =>
          obtain rfl := Option.some.inj (show some _ = some o from ho)
          have d4 : q 4 = .agg #[.int .i64 u.1, .int .i64 u.2, .int .i64 v.1, .int .i64 v.2] := H.out.val 4 (hah ⟨4, .data⟩ (by simp) rfl)
          refine wpK fun K' hK => ?_
          have HM : Hid (listed.getD 5 true = false) := hm
          clear hah ho hm
          go_simp
          refine (reverse_any u.1 u.2 v.1 v.2 _).mono ?_
          rintro e w2 ⟨rfl, HC⟩
          dsimp only
          refine cast (congrArg (fun a => K' a _) ?_) (hK.out _ _ ⟨p, updN q 5 (.agg #[.int .i64 v.1, .int .i64 v.2, .int .i64 u.1, .int .i64 u.2]), rfl, H.out.qq 5 HM.out HC.out rfl⟩)
          simp [updN, d4]
        | 6, ho =>
          obtain rfl := Option.some.inj (show some _ = some o from ho)
          have d3 : q 3 = .map (some b) := H.out.val 3 (hah ⟨3, .data⟩ (by simp) rfl)
          have d5 : q 5 = .agg #[.int .i64 v.1, .int .i64 v.2, .int .i64 u.1, .int .i64 u.2] := H.out.val 5 (hah ⟨5, .data⟩ (by simp) rfl)
          have HM : Hid (listed.getD 6 true = false) := hm
          clear hah ho hm
          refine wpK fun K' hK => ?_
          unfold Oper.wp
          simp [execOp, Act.eval, d3, d5, l2, Result.andThen, go_sem]
          refine cast (congrArg (fun a => K' a _) ?_) (hK.out _ _ ⟨p, updN q 6 (.agg #[.int .i64 r.1, .int .i64 r.2]), rfl, H.out.qq 6 HM.out (New.refl _) rfl⟩)
          simp [updN, d3, d5]
        | 7, ho =>
          obtain rfl := Option.some.inj (show some _ = some o from ho)
          refine wpK fun K' hK => ?_
          clear hah ho
          have HM : Hid (listed.getD 7 true = false) := hm
          clear hm
          go_simp
          exact hK.out _ _ ⟨updN p 0 _, q, rfl, H.out.a 0 HM.out⟩
        | 8, ho =>
          obtain rfl := Option.some.inj (show some _ = some o from ho)
          refine wpK fun K' hK => ?_
          clear hah ho
          have HM : Hid (listed.getD 8 true = false) := hm
          clear hm
          go_simp
          exact hK.out _ _ ⟨updN p 1 _, q, rfl, H.out.a 1 HM.out⟩
        | 9, ho =>
          obtain rfl := Option.some.inj (show some _ = some o from ho)
          have da := hah ⟨7, .data⟩ (by simp) rfl
          have dq : q 2 = .agg #[.int .i64 l.1, .int .i64 l.2] := H.out.val 2 (hah ⟨2, .data⟩ (by simp) rfl)
          obtain ⟨c, hp, hW, hz, _⟩ := H.out.ptr 0 da
          have hzz := hz (getD_false hm)
          have HD : Hid (Duo wc ((wr.setCell ⟨c, 0, none⟩ (.int .i64 l.1)).setCell ⟨c, 1, none⟩ (.int .i64 l.2)) (fun j => if j = 0 then l else r) (fun j => if j = 0 then .map (some b) else if j = 1 then .agg #[.int .i64 u.1, .int .i64 u.2, .int .i64 v.1, .int .i64 v.2] else if j = 2 then .agg #[.int .i64 l.1, .int .i64 l.2] else if j = 3 then .map (some b) else if j = 4 then .agg #[.int .i64 u.1, .int .i64 u.2, .int .i64 v.1, .int .i64 v.2] else if j = 5 then .agg #[.int .i64 v.1, .int .i64 v.2, .int .i64 u.1, .int .i64 u.2] else .agg #[.int .i64 r.1, .int .i64 r.2]) (listed.setIfInBounds 9 true) p q) := H.out.s 0 hm hp hzz hW da
          have c0 := pair_cell0 hzz
          have c1 := pair_cell1 hzz
          have f0 := fun o => pair_free (o := o) hzz
          refine wpK fun K' hK => ?_
          clear hah ho hm da hz hzz hW
          go_simp
          refine cast (congrArg (fun a => K' a _) ?_) (hK.out _ _ ⟨p, q, rfl, HD⟩)
          simp [hp, dq]
        | 10, ho =>
          obtain rfl := Option.some.inj (show some _ = some o from ho)
          have da := hah ⟨8, .data⟩ (by simp) rfl
          have dq : q 6 = .agg #[.int .i64 r.1, .int .i64 r.2] := H.out.val 6 (hah ⟨6, .data⟩ (by simp) rfl)
          obtain ⟨c, hp, hW, hz, _⟩ := H.out.ptr 1 da
          have hzz := hz (getD_false hm)
          have HD : Hid (Duo wc ((wr.setCell ⟨c, 0, none⟩ (.int .i64 r.1)).setCell ⟨c, 1, none⟩ (.int .i64 r.2)) (fun j => if j = 0 then l else r) (fun j => if j = 0 then .map (some b) else if j = 1 then .agg #[.int .i64 u.1, .int .i64 u.2, .int .i64 v.1, .int .i64 v.2] else if j = 2 then .agg #[.int .i64 l.1, .int .i64 l.2] else if j = 3 then .map (some b) else if j = 4 then .agg #[.int .i64 u.1, .int .i64 u.2, .int .i64 v.1, .int .i64 v.2] else if j = 5 then .agg #[.int .i64 v.1, .int .i64 v.2, .int .i64 u.1, .int .i64 u.2] else .agg #[.int .i64 r.1, .int .i64 r.2]) (listed.setIfInBounds 10 true) p q) := H.out.s 1 hm hp hzz hW da
          have c0 := pair_cell0 hzz
          have c1 := pair_cell1 hzz
          have f0 := fun o => pair_free (o := o) hzz
          refine wpK fun K' hK => ?_
          clear hah ho hm da hz hzz hW
          go_simp
          refine cast (congrArg (fun a => K' a _) ?_) (hK.out _ _ ⟨p, q, rfl, HD⟩)
          simp [hp, dq]
        | n + 11, ho => simp at ho
      case fin =>
        rintro listed a' wr ⟨p, q, rfl, H⟩ hall
        obtain ⟨b3, e3, g3, _, k3⟩ := H.out.ptr 0 (hall 7 (by decide))
        obtain ⟨b4, e4, g4, _, k4⟩ := H.out.ptr 1 (hall 8 (by decide))
        have k3 := k3 (hall 9 (by decide))
        have k4 := k4 (hall 10 (by decide))
        rw [e3, e4]
        have hs := HC.out.1.size
        have HF : Hid (New w wr ∧ BoxE wr w.heap.size (u, v) ∧ BoxP wr b1 u ∧ BoxP wr b2 v ∧ BoxP wr b3 l ∧ BoxP wr b4 r ∧ w.heap.size ≤ b3 ∧ w.heap.size ≤ b4) := ⟨HC.out.1.trans' H.out.new, HC.out.2.1.new H.out.new, HC.out.2.2.1.new H.out.new, HC.out.2.2.2.1.new H.out.new, ⟨pair_cell0 k3, pair_cell1 k3⟩, ⟨pair_cell0 k4, pair_cell1 k4⟩, by omega, by omega⟩
        clear hall e3 e4 g3 g4 k3 k4 hs
        dsimp only
        go_wp2_with fail
        go_meet
        exact ⟨_, _, rfl, rfl, HF⟩
    case rest =>
      obtain ⟨b3, b4, rfl, rfl, HD⟩ := hcut
      obtain ⟨x0, x1, x2, x3⟩ := HD.out.2.1
      have hne : Hid (w.heap.size ≠ b ∧ b1 ≠ b ∧ b2 ≠ b ∧ b3 ≠ b ∧ b4 ≠ b) := by
        have h1 := HC.out.2.2.2.2
        have h2 := HD.out.2.2.2.2.2.2
        exact ⟨by omega, by omega, by omega, by omega, by omega⟩
      go_wp2_with (first
        | (at_delete; refine wpList_dropE _ rfl _ _ rfl b n m rfl (H.out.new HD.out.1) (u, v) rfl he.out ?_
           intro w3 h3 t3
           have H3 : Hid (MapE w3 b n (delM m (u, v)) ∧ w.grownBy w3 (some b) ∧ BoxE w3 w.heap.size (u, v) ∧ BoxP w3 b1 u ∧ BoxP w3 b2 v ∧ BoxP w3 b3 l ∧ BoxP w3 b4 r) := ⟨h3, (HD.out.1.but (some b)).trans t3.grown, HD.out.2.1.turned t3 hne.out.1, HD.out.2.2.1.turned t3 hne.out.2.1, HD.out.2.2.2.1.turned t3 hne.out.2.2.1, HD.out.2.2.2.2.1.turned t3 hne.out.2.2.2.1, HD.out.2.2.2.2.2.1.turned t3 hne.out.2.2.2.2⟩
           clear h3 t3 H x0 x1 x2 x3
           obtain ⟨x0, x1, x2, x3⟩ := H3.out.2.2.1)
        | (go_at_call 63; refine (reverse_any u.1 u.2 v.1 v.2 _).mono ?_
           rintro e w4 ⟨rfl, H4⟩)
        | (at_delete; refine wpList_dropE _ rfl _ _ rfl b n _ rfl (H3.out.1.new H4.out) (v, u) rfl ⟨he.out.2, he.out.1⟩ ?_
           intro w5 h5 t5
           have H5 : Hid (MapE w5 b n (delM (delM m (u, v)) (v, u)) ∧ w.grownBy w5 (some b) ∧ BoxP w5 b1 u ∧ BoxP w5 b2 v ∧ BoxP w5 b3 l ∧ BoxP w5 b4 r) := ⟨h5, (H3.out.2.1.trans (H4.out.but (some b))).trans t5.grown, (H3.out.2.2.2.1.new H4.out).turned t5 hne.out.2.1, (H3.out.2.2.2.2.1.new H4.out).turned t5 hne.out.2.2.1, (H3.out.2.2.2.2.2.1.new H4.out).turned t5 hne.out.2.2.2.1, (H3.out.2.2.2.2.2.2.new H4.out).turned t5 hne.out.2.2.2.2⟩
           clear h5 t5 H3 H4 x0 x1 x2 x3
           obtain ⟨y0, y1⟩ := H5.out.2.2.1
           obtain ⟨y2, y3⟩ := H5.out.2.2.2.1
           obtain ⟨y4, y5⟩ := H5.out.2.2.2.2.1
           obtain ⟨y6, y7⟩ := H5.out.2.2.2.2.2)
        | (go_at_call 39; refine (add_any b n _ u r l _ H5.out.1 (by omega) he.out.1 hvl.out.2 hvl.out.1).mono ?_
           rintro e w6 ⟨rfl, A6⟩
           have H6 : Hid (MapE w6 b (n + 3) (addM (delM (delM m (u, v)) (v, u)) u r l) ∧ w.grownBy w6 (some b) ∧ BoxP w6 b1 u ∧ BoxP w6 b2 v ∧ BoxP w6 b3 l ∧ BoxP w6 b4 r) := ⟨A6.out.1, H5.out.2.1.trans A6.out.2, H5.out.2.2.1.grown A6.out.2 (by simpa using hne.out.2.1), H5.out.2.2.2.1.grown A6.out.2 (by simpa using hne.out.2.2.1), H5.out.2.2.2.2.1.grown A6.out.2 (by simpa using hne.out.2.2.2.1), H5.out.2.2.2.2.2.grown A6.out.2 (by simpa using hne.out.2.2.2.2)⟩
           clear A6 H5 y0 y1 y2 y3 y4 y5 y6 y7
           obtain ⟨y0, y1⟩ := H6.out.2.2.1
           obtain ⟨y2, y3⟩ := H6.out.2.2.2.1
           obtain ⟨y4, y5⟩ := H6.out.2.2.2.2.1
           obtain ⟨y6, y7⟩ := H6.out.2.2.2.2.2)
        | (go_at_call 39; refine (add_any b (n + 3) _ v l r _ H6.out.1 (by omega) he.out.2 hvl.out.1 hvl.out.2).mono ?_
           rintro e w7 ⟨rfl, A7⟩
           have H7 : Hid (MapE w7 b (n + 6) (flipM m u v l r) ∧ w.grownBy w7 (some b) ∧ BoxP w7 b1 u ∧ BoxP w7 b2 v ∧ BoxP w7 b3 l ∧ BoxP w7 b4 r) := ⟨A7.out.1, H6.out.2.1.trans A7.out.2, H6.out.2.2.1.grown A7.out.2 (by simpa using hne.out.2.1), H6.out.2.2.2.1.grown A7.out.2 (by simpa using hne.out.2.2.1), H6.out.2.2.2.2.1.grown A7.out.2 (by simpa using hne.out.2.2.2.1), H6.out.2.2.2.2.2.grown A7.out.2 (by simpa using hne.out.2.2.2.2)⟩
           clear A7 H6 y0 y1 y2 y3 y4 y5 y6 y7
           obtain ⟨y0, y1⟩ := H7.out.2.2.1
           obtain ⟨y2, y3⟩ := H7.out.2.2.2.1
           obtain ⟨y4, y5⟩ := H7.out.2.2.2.2.1
           obtain ⟨y6, y7⟩ := H7.out.2.2.2.2.2)
        | go_in)
      go_ret
      exact ⟨w7.heap.size, rfl, H7.out.1.new (New.alloc _ _), H7.out.2.1.trans ((New.alloc _ _).but (some b)), H7.out.2.1.size, _root_.Go.heap_alloc_new w7 _⟩

end Go.Proofs.YtgeoffpcmkofkaaGreat
