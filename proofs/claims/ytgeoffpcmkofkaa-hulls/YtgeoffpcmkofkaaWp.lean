/- The walk of plumbref's 'Mul'. -/
import Derived.Test.YtgeoffpcmkofkaaWo
namespace Go.Proofs.Ytgeoffpcmkofkaa
open Go.RowKit Fl Dg
set_option maxRecDepth 100000

/-- What holds in a round of 'Mul': the row of digits d lies at the head of block g. -/
structure MulR (w V wr : World) (g : Nat) (n1 n2 : Bool) (va vb : Value) (a b d : List Int) (i k : Nat) (c : Int) : Prop where
  new : New w V
  size : V.heap.size = w.heap.size + 3
  gV : g = V.heap.size
  x0 : V.cell? ⟨w.heap.size, 0, none⟩ = some (.bool n1)
  x1 : V.cell? ⟨w.heap.size, 1, none⟩ = some va
  y0 : V.cell? ⟨w.heap.size + 1, 0, none⟩ = some (.bool n2)
  y1 : V.cell? ⟨w.heap.size + 1, 1, none⟩ = some vb
  r0 : V.cell? ⟨w.heap.size + 1 + 1, 0, none⟩ = some (.bool false)
  r1 : V.cell? ⟨w.heap.size + 1 + 1, 1, none⟩ = some (.slice none 0 0)
  rf : ∀ o, V.frozen? ⟨w.heap.size + 1 + 1, o, none⟩ = false
  dx : Dl V va a
  dy : Dl V vb b
  inv : MulI a b i k d c
  own : wr.ownsRow V.heap.size 3 1 (.slice (some ⟨g, 0, none⟩) (a.length + b.length + 1) (a.length + b.length + 1)) (a.length + b.length + 1) (d.map (Value.int .i64))
  vnew : New V wr

section
variable {w V wr : World} {g : Nat} {n1 n2 : Bool} {va vb : Value} {a b d : List Int} {i k : Nat} {c : Int}

theorem MulR.digits (h : MulR w V wr g n1 n2 va vb a b d i k c) (n : Nat) : Dl (wr.drewN n) va a ∧ Dl (wr.drewN n) vb b :=
  ⟨h.dx.kept (h.vnew.drewN n), h.dy.kept (h.vnew.drewN n)⟩

theorem MulR.cells (h : MulR w V wr g n1 n2 va vb a b d i k c) :
    wr.cell? ⟨w.heap.size, 0, none⟩ = some (.bool n1) ∧ wr.cell? ⟨w.heap.size, 1, none⟩ = some va ∧ wr.cell? ⟨w.heap.size + 1, 0, none⟩ = some (.bool n2) ∧ wr.cell? ⟨w.heap.size + 1, 1, none⟩ = some vb ∧
    wr.cell? ⟨w.heap.size + 1 + 1, 0, none⟩ = some (.bool false) ∧ wr.cell? ⟨w.heap.size + 1 + 1, 1, none⟩ = some (.slice none 0 0) ∧ (∀ o, wr.frozen? ⟨w.heap.size + 1 + 1, o, none⟩ = false) := by
  have hs := h.size
  refine ⟨?_, ?_, ?_, ?_, ?_, ?_, ?_⟩
  · rw [h.vnew.rule _ _ (by omega)]; exact h.x0
  · rw [h.vnew.rule _ _ (by omega)]; exact h.x1
  · rw [h.vnew.rule _ _ (by omega)]; exact h.y0
  · rw [h.vnew.rule _ _ (by omega)]; exact h.y1
  · rw [h.vnew.rule _ _ (by omega)]; exact h.r0
  · rw [h.vnew.rule _ _ (by omega)]; exact h.r1
  · intro o; rw [h.vnew.frule _ _ (by omega)]; exact h.rf o

theorem MulR.dcell (h : MulR w V wr g n1 n2 va vb a b d i k c) {j : Nat} (hj : j < a.length + b.length + 1) : wr.cell? ⟨g, j, none⟩ = some (.int .i64 (dg d j)) := by
  have hl := h.inv.len
  rw [h.own.cellAt j (by omega), List.getElem?_map, dg, List.getD_eq_getElem?_getD, List.getElem?_eq_getElem (by omega)]; rfl

theorem MulR.acell (h : MulR w V wr g n1 n2 va vb a b d i k c) (hi : i < a.length) : ∃ ga ca, va = .slice (some ⟨ga, 0, none⟩) a.length ca ∧ a.length ≤ ca ∧ wr.cell? ⟨ga, i, none⟩ = some (.int .i64 (dg a i)) := by
  have hd := h.dx.kept h.vnew
  rcases hd.shape with ⟨_, h2⟩ | ⟨ga, ca, h1, h2, _, h3⟩
  · rw [h2] at hi; simp at hi
  · refine ⟨ga, ca, h1, h2, ?_⟩
    rw [h3 i hi, dg, List.getD_eq_getElem?_getD, List.getElem?_eq_getElem hi]; rfl

theorem MulR.next (h : MulR w V wr g n1 n2 va vb a b d i k c) (hi : i < a.length) (hk : k ≤ b.length) (n : Nat) {s : Int} (hs : s = dg d (i + k) + dg a i * dg b k + c) :
    MulR w V ((wr.drewN n).setCell ⟨g, i + k, none⟩ (.int .i64 (s % 1048576))) g n1 n2 va vb a b (d.set (i + k) (s % 1048576)) i (k + 1) (s / 1048576) ∧ 0 ≤ s ∧ s < 1099511627776 := by
  have hm := h.inv.next h.dx.ok h.dy.ok hi hk hs
  have own1 : (wr.drewN n).ownsRow V.heap.size 3 1 (.slice (some ⟨g, 0, none⟩) (a.length + b.length + 1) (a.length + b.length + 1)) (a.length + b.length + 1) (d.map (Value.int .i64)) := h.own
  have st := own1.stored (i + k) (.int .i64 (s % 1048576))
  refine ⟨⟨h.new, h.size, h.gV, h.x0, h.x1, h.y0, h.y1, h.r0, h.r1, h.rf, h.dx, h.dy, hm.1, ?_, ?_⟩, hm.2.1, hm.2.2⟩
  · rw [List.map_set]; exact st.1
  · exact (h.vnew.drewN n).trans st.2 (by rintro g' ⟨⟩; rw [h.gV]; exact Nat.le_refl _)

theorem MulR.outer (h : MulR w V wr g n1 n2 va vb a b d i k 0) (hi : i < a.length) (hk : b.length ≤ k) : MulR w V wr g n1 n2 va vb a b d (i + 1) 0 0 :=
  ⟨h.new, h.size, h.gV, h.x0, h.x1, h.y0, h.y1, h.r0, h.r1, h.rf, h.dx, h.dy, h.inv.outer hi hk, h.own, h.vnew⟩

theorem MulR.dl (h : MulR w V wr g n1 n2 va vb a b d i k c) (hf : a.length + b.length + 1 ≤ 1000) (n : Nat) : Dl (wr.drewN n) (.slice (some ⟨g, 0, none⟩) (a.length + b.length + 1) (a.length + b.length + 1)) d := by
  have hl := h.inv.len
  refine ⟨?_, h.inv.ok, by omega⟩
  rw [hl]
  refine ⟨h.own.1, ?_⟩
  rcases h.own.2 with h1 | ⟨g', cap', cur, h1, _, h2⟩
  · exact Or.inl h1
  · exact Or.inr ⟨g', cap', cur, h1, Nat.zero_le _, h2⟩
end

theorem num_answer {w wr : World} (hnw : New w wr) {R : Nat} (h1 : w.heap.size ≤ R) {neg : Bool} {x : Int} {L : Nat} {v' : Value} {ds' : List Int} (hd : Dl wr v' ds') (hR : v'.ownBlock ≠ some R) (ht : Tr ds') (hx : x = nv neg ds') (hL : ds'.length ≤ L) :
    NuRet w x L (.returned (.agg #[.bool neg, v'])) ((wr.setCell ⟨R, 0, none⟩ (.bool neg)).setCell ⟨R, 1, none⟩ v') := by
  have hb : Below w.heap.size w wr := ⟨hnw.os, hnw.tape, hnw.output, hnw.size, fun k hk => hnw.block k hk (by simp)⟩
  have hb2 := (hb.setCell (p := ⟨R, 0, none⟩) h1 (.bool neg)).setCell (p := ⟨R, 1, none⟩) h1 v'
  have o1 := ownsRow_setCell_other (ownsRow_setCell_other hd.own (a := ⟨R, 0, none⟩) hR (.bool neg)) (a := ⟨R, 1, none⟩) hR v'
  exact NuRet.mk ⟨⟨neg, v', ds', rfl, ⟨o1, hd.ok, hd.few⟩, ht, hx, hL⟩⟩ (Below.new hb2)

theorem nv_mul (n1 n2 : Bool) (a b d : List Int) (h : dv d = dv a * dv b) : nv (n1 != n2) d = nv n1 a * nv n2 b := by
  cases n1 <;> cases n2 <;> simp [nv, h] <;> grind

set_option maxHeartbeats 6400000 in
theorem mul_walk (n1 n2 : Bool) (ao1 ao2 : Option Addr) (c1 c2 : Nat) (a b : List Int) (L M : Nat) (w : World) (ha : Dl w (.slice ao1 a.length c1) a) (hb : Dl w (.slice ao2 b.length c2) b) (la : a.length ≤ L) (lb : b.length ≤ M) (hL : L + M ≤ 900) :
    Calls Try.prog 38 #[.agg #[.bool n1, .slice ao1 a.length c1], .agg #[.bool n2, .slice ao2 b.length c2]] w fun e w' => NuRet w (nv n1 a * nv n2 b) (L + M + 1) e w' := by
  obtain ⟨i0, hi0, hz0, hz1, hz2⟩ := info_parts Try.info3
  obtain ⟨V, hV⟩ : ∃ V, V = ((w.alloc (.cells #[.bool n1, .slice ao1 a.length c1] 55)).alloc (.cells #[.bool n2, .slice ao2 b.length c2] 55)).alloc (.cells #[.bool false, .slice none 0 0] 55) := ⟨_, rfl⟩
  have HV : Hid (V = ((w.alloc (.cells #[.bool n1, .slice ao1 a.length c1] 55)).alloc (.cells #[.bool n2, .slice ao2 b.length c2] 55)).alloc (.cells #[.bool false, .slice none 0 0] 55)) := hV
  clear hV
  go_enter Try.func38, Try.ntmps38
  go_wp2_with (at_make; refine wpList_make_full _ rfl _ _ 46 rfl V.heap.size 3 i0 (.int .i64 0) 1 Try.underlying46 hi0 hz0 hz1 _ _ _ _ (a.length + b.length + 1) rfl rfl (by omega) (by omega) ?b2 ?b3 ?b4 ?_)
  case b2 => rw [hz2]; omega
  case b3 => unfold maxLen; omega
  case b4 => rw [HV.out]; exact Nat.le_refl _
  intro w0 hown0 hgrow0
  have HR : Hid (MulR w V w0 (w.heap.size + 1 + 1 + 1) n1 n2 (.slice ao1 a.length c1) (.slice ao2 b.length c2) a b (List.replicate (a.length + b.length + 1) 0) 0 0 0) := by
    have hN : New w V := by rw [HV.out]; exact ((New.alloc _ _).alloc' _).alloc' _
    have hg : New V w0 := by rw [HV.out]; exact hgrow0
    refine ⟨hN, by rw [HV.out]; simp, by rw [HV.out]; simp, ?_, ?_, ?_, ?_, ?_, ?_, ?_, ha.kept hN, hb.kept hN, MulI.start a b, ?_, hg⟩
    · rw [HV.out]; go_simp
    · rw [HV.out]; go_simp
    · rw [HV.out]; go_simp
    · rw [HV.out]; go_simp
    · rw [HV.out]; go_simp
    · rw [HV.out]; go_simp
    · intro o; rw [HV.out]; go_simp
    · have e1 : (madeCells #[Value.int .i64 0] (a.length + b.length + 1)).toList = (List.replicate (a.length + b.length + 1) (0 : Int)).map (Value.int .i64) := by
        rw [List.map_replicate]; exact toList_madeCells_one _ _
      rw [← e1]
      exact hown0
  clear hown0 hgrow0 ha hb
  have HOK : Hid (Dok a ∧ Dok b) := ⟨HR.out.dx.ok, HR.out.dy.ok⟩
  go_wp2_with fail
  go_loopw [6] (fun ii wr => ∃ (i : Nat) (d : List Int), ii = .int .i64 i ∧ i ≤ a.length ∧ Hid (MulR w V wr (w.heap.size + 1 + 1 + 1) n1 n2 (.slice ao1 a.length c1) (.slice ao2 b.length c2) a b d i 0 0))
    (fun ii _ => a.length - (intOf ii).toNat)
  case atStart => exact ⟨0, _, rfl, Nat.zero_le _, HR.out⟩
  case round =>
    obtain ⟨i, d0, rfl, hile, H0⟩ := hrel
    have qa1 := H0.out.cells.2.1
    by_cases hi : i < a.length
    · go_wp2_with fail
      go_loopw [7, 8] (fun cc kk wr => ∃ (k : Nat) (cv : Int) (d : List Int), kk = .int .i64 k ∧ cc = .int .i64 cv ∧ 0 ≤ cv ∧ cv < 1048576 ∧ k ≤ b.length + 1 ∧ Hid (MulR w V wr (w.heap.size + 1 + 1 + 1) n1 n2 (.slice ao1 a.length c1) (.slice ao2 b.length c2) a b d i k cv))
        (fun _ kk _ => b.length + 1 - (intOf kk).toNat)
      case atStart => exact ⟨0, 0, d0, rfl, rfl, by omega, by omega, by omega, H0.out⟩
      case round =>
        clear qa1 H0
        obtain ⟨k, cv, d, rfl, rfl, hc0, hc1, hk, H⟩ := hrel
        have qa1 := H.out.cells.2.1
        have qb1 := H.out.cells.2.2.2.1
        by_cases g1 : k < b.length
        · have HGO : k < b.length ∨ 0 < cv := Or.inl g1
          have hkb : k ≤ b.length := H.out.inv.place HOK.out.1 HOK.out.2 hi HGO
          obtain ⟨ga, ca, hva, hca, hac⟩ := H.out.acell hi
          have hao : ao1 = some ⟨ga, 0, none⟩ := by simpa using (Value.slice.inj hva).1
          subst hao
          have hdc := H.out.dcell (j := i + k) (by omega)
          have hdf := H.out.own.frozenAt (i + k)
          have HDr : Hid (∀ n, Dl (wr.drewN n) (.slice (some ⟨ga, 0, none⟩) a.length c1) a ∧ Dl (wr.drewN n) (.slice ao2 b.length c2) b) := H.out.digits
          have HNx : Hid (∀ n, MulR w V ((wr.drewN n).setCell ⟨w.heap.size + 1 + 1 + 1, i + k, none⟩ (.int .i64 ((dg d (i + k) + dg a i * dg b k + cv) % 1048576))) (w.heap.size + 1 + 1 + 1) n1 n2 (.slice (some ⟨ga, 0, none⟩) a.length c1) (.slice ao2 b.length c2) a b (d.set (i + k) ((dg d (i + k) + dg a i * dg b k + cv) % 1048576)) i (k + 1) ((dg d (i + k) + dg a i * dg b k + cv) / 1048576)) := fun n => (H.out.next hi hkb n rfl).1
          have hac1 : a.length ≤ c1 := by have := (Value.slice.inj hva).2.2; omega
          have x0 := (dg_ok HOK.out.1 i).1
          have x1 := (dg_ok HOK.out.1 i).2
          have y0 := (dg_ok HOK.out.2 k).1
          have y1 := (dg_ok HOK.out.2 k).2
          have z0 := (dg_ok H.out.inv.ok (i + k)).1
          have z1 := (dg_ok H.out.inv.ok (i + k)).2
          have p0 : 0 ≤ dg a i * dg b k := Int.mul_nonneg x0 y0
          have p1 : dg a i * dg b k ≤ 1048575 * 1048575 := Int.mul_le_mul (by omega) (by omega) y0 (by omega)
          have hva2 : Hid (ca = c1) := by have := (Value.slice.inj hva).2.2; exact this.symm
          clear hva hac1
          have hix0 : (0 : Int) ≤ (i : Int) + k := by omega
          have hix1 : (i : Int) + k < ((a.length + b.length + 1 : Nat) : Int) := by omega
          have hia1 : (i : Int) < (a.length : Int) := by omega
          go_wp2_with fail
          go_quiet ((go_at_call 58; exact Calls.quiet_of_same (digit_same _ b k _ (HDr.out _).2 (by omega))))
          go_wp2_with fail
          go_roundw
          case rel => exact ⟨k + 1, _, _, by go_num, rfl, by omega, by omega, by omega, HNx.out _⟩
          case measure => simp [intOf]; omega
        · by_cases g2 : 0 < cv
          · have HGO : k < b.length ∨ 0 < cv := Or.inr g2
            have hkb : k ≤ b.length := H.out.inv.place HOK.out.1 HOK.out.2 hi HGO
            obtain ⟨ga, ca, hva, hca, hac⟩ := H.out.acell hi
            have hao : ao1 = some ⟨ga, 0, none⟩ := by simpa using (Value.slice.inj hva).1
            subst hao
            have hdc := H.out.dcell (j := i + k) (by omega)
            have hdf := H.out.own.frozenAt (i + k)
            have HDr : Hid (∀ n, Dl (wr.drewN n) (.slice (some ⟨ga, 0, none⟩) a.length c1) a ∧ Dl (wr.drewN n) (.slice ao2 b.length c2) b) := H.out.digits
            have HNx : Hid (∀ n, MulR w V ((wr.drewN n).setCell ⟨w.heap.size + 1 + 1 + 1, i + k, none⟩ (.int .i64 ((dg d (i + k) + dg a i * dg b k + cv) % 1048576))) (w.heap.size + 1 + 1 + 1) n1 n2 (.slice (some ⟨ga, 0, none⟩) a.length c1) (.slice ao2 b.length c2) a b (d.set (i + k) ((dg d (i + k) + dg a i * dg b k + cv) % 1048576)) i (k + 1) ((dg d (i + k) + dg a i * dg b k + cv) / 1048576)) := fun n => (H.out.next hi hkb n rfl).1
            have hac1 : a.length ≤ c1 := by have := (Value.slice.inj hva).2.2; omega
            have x0 := (dg_ok HOK.out.1 i).1
            have x1 := (dg_ok HOK.out.1 i).2
            have y0 := (dg_ok HOK.out.2 k).1
            have y1 := (dg_ok HOK.out.2 k).2
            have z0 := (dg_ok H.out.inv.ok (i + k)).1
            have z1 := (dg_ok H.out.inv.ok (i + k)).2
            have p0 : 0 ≤ dg a i * dg b k := Int.mul_nonneg x0 y0
            have p1 : dg a i * dg b k ≤ 1048575 * 1048575 := Int.mul_le_mul (by omega) (by omega) y0 (by omega)
            have hva2 : Hid (ca = c1) := by have := (Value.slice.inj hva).2.2; exact this.symm
            clear hva hac1
            have hix0 : (0 : Int) ≤ (i : Int) + k := by omega
            have hix1 : (i : Int) + k < ((a.length + b.length + 1 : Nat) : Int) := by omega
            have hia1 : (i : Int) < (a.length : Int) := by omega
            go_wp2_with fail
            go_quiet ((go_at_call 58; exact Calls.quiet_of_same (digit_same _ b k _ (HDr.out _).2 (by omega))))
            go_wp2_with fail
            go_roundw
            case rel => exact ⟨k + 1, _, _, by go_num, rfl, by omega, by omega, by omega, HNx.out _⟩
            case measure => simp [intOf]; omega
          · have hz : cv = 0 := by omega
            subst hz
            go_wp2_with fail
            go_roundw
            case rel => exact ⟨i + 1, d, by go_num, hi, H.out.outer hi (by omega)⟩
            case measure => simp [intOf]; omega
    · have hi2 : i = a.length := by omega
      subst hi2
      have q0 := H0.out.cells.1
      have p0 := H0.out.cells.2.2.1
      have qr0 := H0.out.cells.2.2.2.2.1
      have qr1 := H0.out.cells.2.2.2.2.2.1
      have qf := H0.out.cells.2.2.2.2.2.2
      have HDd : Hid (Dl wr.drew (.slice (some ⟨w.heap.size + 1 + 1 + 1, 0, none⟩) (a.length + b.length + 1) (a.length + b.length + 1)) d0) := H0.out.dl (by omega) 1
      go_wp2_with fail
      go_region_with (go_at_call 59; refine (trim_same _ d0 _ HDd.out).mono ?_; rintro e w3 ⟨ao', c', ds', rfl, rfl, HT⟩)
      all_goals
        go_wp2_with fail
        refine bodyPost_ret (v := .agg #[.bool (!(n1 == n2)), .slice ao' ds'.length c']) (by simp [results, Try.results38, go_sem, qr0, qr1]) rfl ?_
        exact num_answer ((H0.out.new.trans' H0.out.vnew).drewN 1) (by omega) HT.out.1 (by rw [HT.out.2.2.2.2]; simp [Value.ownBlock]) HT.out.2.2.1 (nv_mul n1 n2 a b ds' (HT.out.2.1.trans H0.out.inv.done)).symm (by have := HT.out.2.2.2.1; have := H0.out.inv.len; omega)

theorem mul_num (m n : Value) (x y : Int) (L M : Nat) (w : World) (h1 : Nu w m x L) (h2 : Nu w n y M) (hL : L + M ≤ 900) :
    Calls Try.prog 38 #[m, n] w fun e w' => NuRet w (x * y) (L + M + 1) e w' := by
  obtain ⟨neg, va, a, rfl, da, ta, rfl, la⟩ := h1.ex
  obtain ⟨neg', vb, b, rfl, db, tb, rfl, lb⟩ := h2.ex
  obtain ⟨ao1, n1, c1, rfl, rfl⟩ := slice_val da
  obtain ⟨ao2, n2, c2, rfl, rfl⟩ := slice_val db
  exact mul_walk neg neg' ao1 ao2 c1 c2 a b L M w da db la lb hL

end Go.Proofs.Ytgeoffpcmkofkaa
