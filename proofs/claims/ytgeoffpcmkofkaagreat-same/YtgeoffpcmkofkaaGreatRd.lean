/- The walk of 'seenFrom' of package mesh. -/
import Derived.Test.YtgeoffpcmkofkaaGreatRc
namespace Go.Proofs.YtgeoffpcmkofkaaGreat
open Go.RowKit Go.Maps Fl
set_option maxRecDepth 100000
attribute [local go_sem ↓] Go.wp_at_zero Go.wp_at_succ

/-- A row of directed sides, which the call has made. -/
def OwnE (w : World) (base : Nat) (v : Value) (l : List Ed) : Prop := w.ownsRow base 65 4 v l.length (l.flatMap encE)
theorem Tryz.info65 : (Tryz.prog.info? 65).map (fun i => (i.zero, i.size, i.bytes)) = some (some (.agg #[.int .i64 0, .int .i64 0, .int .i64 0, .int .i64 0]), 4, 32) := by kernel_rfl
theorem OwnE.new {w w' : World} {base : Nat} {v : Value} {l : List Ed} (h : OwnE w base v l) (hg : New w w') : OwnE w' base v l := World.ownsRow.kept h hg (by cases v.ownBlock <;> simp)
theorem OwnE.kept {w w' : World} {base r : Nat} {v : Value} {l : List Ed} (h : OwnE w base v l) (hg : w.grownBy w' (some r)) (hr : r < base) : OwnE w' base v l := by
  refine World.ownsRow.kept h hg ?_
  cases hv : v.ownBlock with
  | none => exact .inl rfl
  | some k => exact .inr (by have := (World.ownsRow.lt h k hv).1; simp; omega)

theorem New.ownO {w w1 w2 : World} {row : Option Nat} (h : New w w1) (h2 : w1.grownBy w2 row) (hr : ∀ k, row = some k → w.heap.size ≤ k) : New w w2 :=
  ⟨h2.os.trans h.os, h2.tape.trans h.tape, h2.output.trans h.output, Nat.le_trans h.size h2.size, fun k hk _ => (h2.block k (Nat.lt_of_lt_of_le hk h.size) (fun e => by have := hr k e.symm; omega)).trans (h.block k hk (by simp))⟩
/-- Where the loop stands. -/
structure SF (w wr : World) (b n : Nat) (m : Ms) (p : Pt) (v : Value) (vis L : List Ed) : Prop where
  rg : RangeE wr b (w.heap.size + 1) n m vis
  new : New w wr
  box : BoxP wr w.heap.size p
  own : OwnE wr (w.heap.size + 2) v L
  nd : L.Nodup
  iff : ∀ e, e ∈ L ↔ e ∈ vis ∧ SeenBy m p e
  sz : w.heap.size + 2 ≤ wr.heap.size
theorem SF.step {w wr wx : World} {b n : Nat} {m : Ms} {p : Pt} {v : Value} {vis vis' L : List Ed} (h : SF w wr b n m p v vis L) (hg : wr.grownBy wx (some (w.heap.size + 1))) (hr : RangeE wx b (w.heap.size + 1) n m vis') (hi : ∀ e, e ∈ L ↔ e ∈ vis' ∧ SeenBy m p e) : SF w wx b n m p v vis' L :=
  ⟨hr, h.new.own hg (by omega), h.box.grown hg (by simp), h.own.kept hg (by omega), h.nd, hi, Nat.le_trans h.sz hg.size⟩
theorem SF.next {w wr wx : World} {b n : Nat} {m : Ms} {p : Pt} {v : Value} {vis L : List Ed} (h : SF w wr b n m p v vis L) (hg : New wr wx) : SF w wx b n m p v vis L ∧ wx.rangeLeft b (w.heap.size + 1) = wr.rangeLeft b (w.heap.size + 1) := by
  obtain ⟨k1, k2⟩ := h.rg.kept hg (by simp) (by simp)
  exact ⟨⟨k1, h.new.trans' hg, h.box.new hg, h.own.new hg, h.nd, h.iff, Nat.le_trans h.sz hg.size⟩, k2⟩

set_option maxHeartbeats 3200000 in
theorem seenFrom_any (b n : Nat) (m : Ms) (p : Pt) (w : World) (PS : List Ed) (hm : MapE w b n m) (hp : CdP p) (hPS : ∀ e, (m e).isSome = true → e ∈ PS) (hlen : PS.length ≤ 1000000) :
    Calls Tryz.prog 38 #[.map (some b), .agg #[.int .i64 p.1, .int .i64 p.2]] w fun e w' => ∃ v L, e = .returned v ∧ Hid (New w w' ∧ SeenIs m p L ∧ OwnE w' w.heap.size v L) := by
  have H0 : Hid (MapE w b n m ∧ b < w.heap.size ∧ CdP p ∧ (∀ e, (m e).isSome = true → e ∈ PS)) := ⟨hm, hm.lt, hp, hPS⟩
  clear hm hp hPS
  obtain ⟨i0, hi0, hz0, hz1, hz2⟩ := info_parts Tryz.info65
  go_enter Tryz.func38, Tryz.ntmps38
  go_wp2_with (first
    | (at_range; refine wpList_rangeE _ rfl _ rfl b n m rfl (H0.out.1.new (New.alloc _ _)) ?_
       intro w0 r0 n0 s0
       have HS : Hid (SF w w0 b n m p (.slice none 0 0) [] []) := ⟨by simpa using r0, (New.alloc _ _).trans' n0, (BoxP.mk (by go_simp) (by go_simp) : BoxP _ _ p).new n0, World.ownsRow_nil _ _ _ _, List.nodup_nil, (fun e => by simp), by rw [s0]; simp⟩
       clear r0 n0 s0)
    | go_in)
  go_frame
  rw [show (w.alloc (.cells #[.int .i64 p.1, .int .i64 p.2] 36)).heap.size = w.heap.size + 1 by simp]
  go_loopw [5] (fun v wr => ∃ vis L, Hid (SF w wr b n m p v vis L)) (fun _ wr => wr.rangeLeft b (w.heap.size + 1))
  case atStart => exact ⟨[], [], HS⟩
  case round =>
    obtain ⟨vis, L, H⟩ := hrel
    go_wp2_with (first
      | (at_next; refine wpList_nextE _ rfl _ rfl b (w.heap.size + 1) n m vis rfl H.out.rg ?_ ?_)
      | go_in)
    · intro hall
      have HF : Hid (SeenIs m p L) := ⟨H.out.nd, fun e => by rw [H.out.iff]; exact ⟨fun k => k.2, fun k => ⟨hall e.1.1 e.1.2 e.2.1 e.2.2 k.1.1, k⟩⟩⟩
      clear hall
      go_wp2_with fail
      go_ret
      exact ⟨_, L, rfl, H.out.new, HF.out, ⟨H.out.own.1, H.out.own.2.imp id fun ⟨g, cap, cur, a1, a2, a3⟩ => ⟨g, cap, cur, a1, by omega, a3⟩⟩⟩
    · intro ex ey fx fy cx cy w1 hmc he hnv hr1 hlt hg1 hs1 hen
      have HM : Hid (m ((ex, ey), (fx, fy)) = some (cx, cy) ∧ CdE ((ex, ey), (fx, fy)) ∧ ((ex, ey), (fx, fy)) ∉ vis ∧ RangeE w1 b (w.heap.size + 1) n m (vis ++ [((ex, ey), (fx, fy))]) ∧ w1.rangeLeft b (w.heap.size + 1) < wr.rangeLeft b (w.heap.size + 1) ∧ wr.grownBy w1 (some (w.heap.size + 1))) := ⟨hmc, he, hnv, hr1, hlt, hg1⟩
      have HE : Hid (CdE ((fx, fy), (ex, ey))) := ⟨he.2, he.1⟩
      have H1 : Hid (New w w1 ∧ MapE w1 b n m ∧ BoxP w1 w.heap.size p ∧ OwnE w1 (w.heap.size + 2) u5 L ∧ w.heap.size + 2 ≤ w1.heap.size) := ⟨H.out.new.own hg1 (by omega), hr1.owns, H.out.box.grown hg1 (by simp), H.out.own.kept hg1 (by omega), Nat.le_trans H.out.sz hg1.size⟩
      clear hmc he hnv hr1 hlt hg1 hs1
      -- what stays as it is
      have HStay : Hid (∀ wx, New w1 wx → ¬SeenBy m p ((ex, ey), (fx, fy)) → ∃ vis L, Hid (SF w wx b n m p u5 vis L) ∧ wx.rangeLeft b (w.heap.size + 1) < wr.rangeLeft b (w.heap.size + 1)) := by
        intro wx hx hns
        have s1 := H.out.step HM.out.2.2.2.2.2 HM.out.2.2.2.1 (fun e => by
          rw [H.out.iff]
          simp only [List.mem_append, List.mem_singleton]
          constructor
          · exact fun k => ⟨.inl k.1, k.2⟩
          · rintro ⟨k | k, k2⟩
            · exact ⟨k, k2⟩
            · rw [k] at k2; exact absurd k2 hns)
        obtain ⟨s2, s3⟩ := s1.next hx
        exact ⟨_, _, s2, by rw [s3]; exact HM.out.2.2.2.2.1⟩
      cases hrev : m ((fx, fy), (ex, ey)) with
      | some z =>
        have HNS : Hid (¬SeenBy m p ((ex, ey), (fx, fy))) := fun k => by have := k.1.2; simp only at this; rw [hrev] at this; cases this
        go_wp2_with (first
          | (go_at_call 63; refine (reverse_any ex ey fx fy _).mono ?_
             rintro e w2 ⟨rfl, G2⟩
             have N2 : Hid (New w1 w2) := ((New.refl w1).alloc' _).trans' G2.out
             clear G2)
          | (at_lookup; refine wpList_lookE_some _ rfl _ _ rfl b n m rfl (H1.out.2.1.new N2.out) ((fx, fy), (ex, ey)) rfl hrev ?_)
          | go_in)
        obtain ⟨vis', L', k1, k2⟩ := HStay.out _ (N2.out.alloc' _) HNS.out
        exact ⟨⟨_, _, k1⟩, k2⟩
      | none =>
        have HLn : Hid (L.length ≤ 1000000) := by
          refine Nat.le_trans (length_le_of_sub (l₂ := PS) H.out.nd fun e he => ?_) hlen
          exact H0.out.2.2.2 e ((H.out.iff e).1 he).2.1.1
        by_cases hd : D (ex, ey) (fx, fy) p < 0
        · have hs : sgn (det ex ey fx fy p.1 p.2) < 0 := sgn_neg'.2 hd
          have HSB : Hid (SeenBy m p ((ex, ey), (fx, fy))) := ⟨⟨by rw [HM.out.1]; rfl, hrev⟩, hd⟩
          go_wp2_with (first
            | (go_at_call 63; refine (reverse_any ex ey fx fy _).mono ?_
               rintro e w2 ⟨rfl, G2⟩
               have N2 : Hid (New w1 w2) := ((New.refl w1).alloc' _).trans' G2.out
               have B2 : Hid (BoxE w2 w1.heap.size ((ex, ey), (fx, fy)) ∧ BoxP w2 w.heap.size p) := ⟨(BoxE.mk (by go_simp) (by go_simp) (by go_simp) (by go_simp) : BoxE _ _ ((ex, ey), (fx, fy))).new G2.out, H1.out.2.2.1.new N2.out⟩
               have lt0 : w1.heap.size < w2.heap.size := World.block_lt_of_cell? w2 _ B2.out.1.c0
               have lt1 : w.heap.size < w2.heap.size := World.block_lt_of_cell? w2 _ B2.out.2.c0
               clear G2
               obtain ⟨⟨x0, x1, x2, x3⟩, y0, y1⟩ := B2.out)
            | (at_lookup; refine wpList_lookE_none _ rfl _ _ rfl b n m rfl (H1.out.2.1.new N2.out) ((fx, fy), (ex, ey)) rfl HE.out hrev ?_)
            | (go_at_call 24; refine (of_any ex ey fx fy p.1 p.2 _ HM.out.2.1.1.1 HM.out.2.1.1.2 HM.out.2.1.2.1 HM.out.2.1.2.2 H0.out.2.2.1.1 H0.out.2.2.1.2).mono ?_
               rintro e w3 ⟨rfl, G3⟩
               have N3 : Hid (New w1 w3) := (N2.out.alloc' _).trans' G3.out
               have B3 : Hid (BoxE w3 w1.heap.size ((ex, ey), (fx, fy))) := (B2.out.1.new (New.alloc _ _)).new G3.out
               have lt2 : w1.heap.size < w3.heap.size := World.block_lt_of_cell? w3 _ B3.out.c0
               clear G3 x0 x1 x2 x3 y0 y1 lt0 lt1
               obtain ⟨x0, x1, x2, x3⟩ := B3.out)
            | (at_builtin; refine wpList_append_own _ rfl _ _ 62 rfl (w.heap.size + 2) 65 i0 (.agg #[.int .i64 0, .int .i64 0, .int .i64 0, .int .i64 0]) 4 32 Tryz.underlying62 hi0 hz0 hz1 hz2 rfl (by decide) _ _ _ rfl (World.ownsRow.alloc (H1.out.2.2.2.1.new N3.out) _) ⟨w3.heap.size, 0, none⟩ 1 1 [.int .i64 ex, .int .i64 ey, .int .i64 fx, .int .i64 fy] rfl rfl (World.news_of_block (cs := #[.int .i64 ex, .int .i64 ey, .int .i64 fx, .int .i64 fy]) (t := 65) (fr := (0, 0)) (heap_alloc_new w3 _)) (by simp [Value.oneCell']) (by unfold maxLen; have := HLn.out; omega) (by have := HLn.out; omega) (by have := N3.out.size; have := H1.out.2.2.2.2; simp; omega) ?_
               intro v' w4 o4 g4 _
               have HA : Hid (OwnE w4 (w.heap.size + 2) v' (L ++ [((ex, ey), (fx, fy))]) ∧ (w3.alloc (.cells #[.int .i64 ex, .int .i64 ey, .int .i64 fx, .int .i64 fy] 65)).grownBy w4 u5.ownBlock) := ⟨by unfold OwnE; rw [List.length_append, List.flatMap_append]; exact o4, g4⟩
               clear o4 g4)
            | go_in)
          have hlo : ∀ k, u5.ownBlock = some k → w.heap.size + 2 ≤ k := fun k hk => (World.ownsRow.lt H1.out.2.2.2.1 k hk).1
          have hbw := H0.out.2.1
          obtain ⟨r1, r2⟩ := HM.out.2.2.2.1.kept (N3.out.alloc' _) (by simp) (by simp)
          obtain ⟨r3, r4⟩ := r1.kept HA.out.2 (fun e => by have := hlo b e.symm; omega) (fun e => by have := hlo _ e.symm; omega)
          refine ⟨⟨_, _, r3, ?_, ?_, HA.out.1, ?_, fun e => ?_, ?_⟩, by rw [r4, r2]; exact HM.out.2.2.2.2.1⟩
          · exact (H1.out.1.trans' (N3.out.alloc' _)).ownO HA.out.2 (fun k hk => by have := hlo k hk; omega)
          · exact (H1.out.2.2.1.new (N3.out.alloc' _)).grown HA.out.2 (fun e => by have := hlo _ e.symm; omega)
          · rw [List.nodup_append]
            refine ⟨H.out.nd, by simp, fun a ha c hc => ?_⟩
            simp at hc
            subst hc
            exact fun e => HM.out.2.2.1 (e ▸ ((H.out.iff a).1 ha).1)
          · simp only [List.mem_append, List.mem_singleton]
            constructor
            · rintro (k | k)
              · exact ⟨.inl ((H.out.iff e).1 k).1, ((H.out.iff e).1 k).2⟩
              · rw [k]; exact ⟨.inr rfl, HSB.out⟩
            · rintro ⟨k | k, k2⟩
              · exact .inl ((H.out.iff e).2 ⟨k, k2⟩)
              · exact .inr k
          · have a1 := HA.out.2.size
            have a2 := N3.out.size
            have a3 := H1.out.2.2.2.2
            simp at a1
            omega
        · have hs : ¬sgn (det ex ey fx fy p.1 p.2) < 0 := fun c => hd (sgn_neg'.1 c)
          have HNS : Hid (¬SeenBy m p ((ex, ey), (fx, fy))) := fun k => hd k.2
          go_wp2_with (first
            | (go_at_call 63; refine (reverse_any ex ey fx fy _).mono ?_
               rintro e w2 ⟨rfl, G2⟩
               have N2 : Hid (New w1 w2) := ((New.refl w1).alloc' _).trans' G2.out
               have B2 : Hid (BoxE w2 w1.heap.size ((ex, ey), (fx, fy)) ∧ BoxP w2 w.heap.size p) := ⟨(BoxE.mk (by go_simp) (by go_simp) (by go_simp) (by go_simp) : BoxE _ _ ((ex, ey), (fx, fy))).new G2.out, H1.out.2.2.1.new N2.out⟩
               have lt0 : w1.heap.size < w2.heap.size := World.block_lt_of_cell? w2 _ B2.out.1.c0
               have lt1 : w.heap.size < w2.heap.size := World.block_lt_of_cell? w2 _ B2.out.2.c0
               clear G2
               obtain ⟨⟨x0, x1, x2, x3⟩, y0, y1⟩ := B2.out)
            | (at_lookup; refine wpList_lookE_none _ rfl _ _ rfl b n m rfl (H1.out.2.1.new N2.out) ((fx, fy), (ex, ey)) rfl HE.out hrev ?_)
            | (go_at_call 24; refine (of_any ex ey fx fy p.1 p.2 _ HM.out.2.1.1.1 HM.out.2.1.1.2 HM.out.2.1.2.1 HM.out.2.1.2.2 H0.out.2.2.1.1 H0.out.2.2.1.2).mono ?_
               rintro e w3 ⟨rfl, G3⟩
               have N3 : Hid (New w1 w3) := (N2.out.alloc' _).trans' G3.out
               have B3 : Hid (BoxE w3 w1.heap.size ((ex, ey), (fx, fy))) := (B2.out.1.new (New.alloc _ _)).new G3.out
               have lt2 : w1.heap.size < w3.heap.size := World.block_lt_of_cell? w3 _ B3.out.c0
               clear G3 x0 x1 x2 x3 y0 y1 lt0 lt1
               obtain ⟨x0, x1, x2, x3⟩ := B3.out)
            | go_in)
          obtain ⟨vis', L', k1, k2⟩ := HStay.out _ N3.out HNS.out
          exact ⟨⟨_, _, k1⟩, k2⟩

end Go.Proofs.YtgeoffpcmkofkaaGreat
