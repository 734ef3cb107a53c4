/- Rf; Rd; Rg; Rh: texts laid into one. -/
import Derived.Test.YtgeoffpcmkofkaaGreatQak
import Derived.Shelf.SlIter.Collect
/- The mesh of points in their order, and what the flips make of it, over whole numbers. -/
namespace Go.Proofs.YtgeoffpcmkofkaaGreat

theorem nodup_pairs {s : Pts} (h : s.Nodup) : (pairs s).Nodup := by
  unfold pairs
  have key : ∀ (t u : Pts), t.Nodup → u.Nodup → (t.flatMap fun a => u.map fun v => (a, v)).Nodup := by
    intro t u ht hu
    induction t with
    | nil => simp
    | cons a t ih =>
      rw [List.nodup_cons] at ht
      rw [List.flatMap_cons, List.nodup_append]
      refine ⟨nodup_map hu (fun x _ y _ e => by injection e), ih ht.2, fun x hx y hy e => ?_⟩
      obtain ⟨v, _, rfl⟩ := List.mem_map.1 hx
      obtain ⟨b, hb, hy⟩ := List.mem_flatMap.1 hy
      obtain ⟨v', _, rfl⟩ := List.mem_map.1 hy
      injection e with e _
      exact ht.1 (e ▸ hb)
  exact key s s h h

open Classical in
/-- What a point sees, in an order of its own. -/
noncomputable def seenL (s : Pts) (m : Ms) (p : Pt) : List Ed := (pairs s).filter fun e => decide (SeenBy m p e)
theorem seenL_is {s S : Pts} {m : Ms} {p : Pt} (hs : s.Nodup) (h : Ok S m) (hS : ∀ x ∈ S, x ∈ s) : SeenIs m p (seenL s m p) := by
  refine ⟨(nodup_pairs hs).filter _, fun e => ?_⟩
  unfold seenL
  rw [List.mem_filter]
  constructor
  · exact fun k => by simpa using k.2
  · intro k
    have o := h.outer_mem k.1
    exact ⟨mem_pairs.2 ⟨hS _ o.1, hS _ o.2.1⟩, by simpa using k⟩

/-- The mesh, when k points behind the first n + 1 are joined to it. -/
noncomputable def meshK (s : Pts) (n : Nat) : Nat → Ms
  | 0 => joinN (s.take n) (ptAt s n) (fun _ => none) (n - 1)
  | k + 1 => addAll (meshK s n k) (seenL s (meshK s n k) (ptAt s (n + 1 + k))) (ptAt s (n + 1 + k))

/-- n points lie in a line, the next one beside it. -/
structure Begun (s : Pts) (n : Nat) : Prop where
  rising : Rising s
  two : 2 ≤ n
  lt : n < s.length
  line : ∀ i, i < n → D (ptAt s 0) (ptAt s 1) (ptAt s i) = 0
  beside : D (ptAt s 0) (ptAt s 1) (ptAt s n) ≠ 0

theorem ptAt_take {s : Pts} {n i : Nat} (h : i < n) : ptAt (s.take n) i = ptAt s i := by
  unfold ptAt
  simp [List.getD, List.getElem?_take_of_lt h]
theorem Begun.lined {s : Pts} {n : Nat} (h : Begun s n) : Lined (s.take n) (ptAt s n) := by
  have h2 := h.two
  have hl := h.lt
  have len : (s.take n).length = n := by simp; omega
  have r := h.rising.take n
  have ne : ptAt s 0 ≠ ptAt s 1 := fun e => h.beside (by rw [e, D_same0])
  have onl : ∀ x ∈ s.take n, D (ptAt s 0) (ptAt s 1) x = 0 := by
    intro x hx
    obtain ⟨i, hi⟩ := List.mem_iff_getElem?.1 hx
    have hin : i < n := by have := (List.getElem?_eq_some_iff.1 hi).1; omega
    have := ptAt_get (l := s.take n) (i := i) (by omega)
    rw [hi] at this
    injection this with this
    rw [this, ptAt_take hin]
    exact h.line i hin
  refine ⟨r, by omega, fun x hx y hy z hz => line3 ne (onl x hx) (onl y hy) (onl z hz), ?_⟩
  rw [ptAt_take (by omega), ptAt_take (by omega)]
  exact h.beside

theorem take_succ_ptAt {s : Pts} {i : Nat} (h : i < s.length) : s.take (i + 1) = s.take i ++ [ptAt s i] := by
  rw [List.take_add_one, ptAt_get h]; rfl

theorem Begun.meshK {s : Pts} {n : Nat} (h : Begun s n) : ∀ k, n + 1 + k ≤ s.length → Ok (s.take (n + 1 + k)) (meshK s n k) ∧ Corners (s.take (n + 1 + k)) (meshK s n k)
  | 0, _ => by
    have := h.lined.ok
    have hl := h.lt
    rw [show (s.take n).length - 1 = n - 1 by simp; omega] at this
    rw [Nat.add_zero, take_succ_ptAt hl]
    exact this
  | k + 1, hk => by
    obtain ⟨h1, h2⟩ := h.meshK k (by omega)
    have hl : n + 1 + k < s.length := by omega
    have r := h.rising.take (n + 1 + k)
    have nd := r.nodup
    have hin : ∀ x ∈ s.take (n + 1 + k), x ∈ s := fun x hx => List.mem_of_mem_take hx
    have hK : ∀ x ∈ s.take (n + 1 + k), K x < K (ptAt s (n + 1 + k)) := by
      intro x hx
      obtain ⟨i, hi⟩ := List.mem_iff_getElem?.1 hx
      have hil : i < n + 1 + k := by have := (List.getElem?_eq_some_iff.1 hi).1; simp at this; omega
      rw [List.getElem?_take_of_lt hil] at hi
      exact h.rising i (n + 1 + k) x _ hi (ptAt_get hl) hil
    have hL := seenL_is (p := ptAt s (n + 1 + k)) h.rising.nodup h1 hin
    have e : n + 1 + (k + 1) = n + 1 + k + 1 := by omega
    rw [e, take_succ_ptAt hl]
    have hq : ptAt s (n + k) ∈ s.take (n + 1 + k) := by
      have hx : ptAt (s.take (n + 1 + k)) (n + k) ∈ s.take (n + 1 + k) := ptAt_mem (by simp; omega)
      rwa [ptAt_take (by omega)] at hx
    have hmax : ∀ x ∈ s.take (n + 1 + k), x = ptAt s (n + k) ∨ K x < K (ptAt s (n + k)) := by
      intro x hx
      obtain ⟨i, hi⟩ := List.mem_iff_getElem?.1 hx
      have hil : i < n + 1 + k := by have := (List.getElem?_eq_some_iff.1 hi).1; simp at this; omega
      rw [List.getElem?_take_of_lt hil] at hi
      rcases Nat.lt_or_ge i (n + k) with c | c
      · exact .inr (h.rising i (n + k) x _ hi (ptAt_get (by omega)) c)
      · have : i = n + k := by omega
        subst this
        rw [ptAt_get (by omega)] at hi
        injection hi with hi
        exact .inl hi.symm
    exact ⟨sweep_ok h1 nd hK hL, sweep_corners h1 nd hK hL h2 hq hmax⟩

/-- How many points lie in a line, at the start. -/
structure LineIs (s : Pts) (n : Nat) : Prop where
  ge : min 2 s.length ≤ n
  le : n ≤ s.length
  line : ∀ i, i < n → D (ptAt s 0) (ptAt s 1) (ptAt s i) = 0
  stop : n < s.length → D (ptAt s 0) (ptAt s 1) (ptAt s n) ≠ 0
theorem line_unique {s : Pts} {n n' : Nat} (h : LineIs s n) (h' : LineIs s n') : n = n' := by
  rcases Nat.lt_trichotomy n n' with k | k | k
  · exact absurd (h'.line n k) (h.stop (by have := h'.le; omega))
  · exact k
  · exact absurd (h.line n' k) (h'.stop (by have := h.le; omega))
open Classical in
noncomputable def lineC (s : Pts) : Nat := if h : ∃ n, LineIs s n then h.choose else 0
theorem lineC_eq {s : Pts} {n : Nat} (h : LineIs s n) : lineC s = n := by
  have h' : ∃ n, LineIs s n := ⟨n, h⟩
  unfold lineC
  rw [dif_pos h']
  exact line_unique h'.choose_spec h

/-- The mesh of points in their order. -/
noncomputable def meshOf (s : Pts) : Ms := if lineC s = s.length then fun _ => none else meshK s (lineC s) (s.length - lineC s - 1)
theorem LineIs.begun {s : Pts} {n : Nat} (h : LineIs s n) (hr : Rising s) (hl : n < s.length) : Begun s n := by
  have h2 : 2 ≤ n := by
    have := h.ge
    rcases Nat.lt_or_ge s.length 3 with c | c
    · exfalso
      have e : n = 2 ∨ n = 1 ∨ n = 0 := by omega
      have hs := h.stop hl
      rcases e with rfl | rfl | rfl
      · omega
      · exact hs (D_same2 _ _)
      · exact hs (D_same1 _ _)
    · omega
  exact ⟨hr, h2, hl, h.line, h.stop hl⟩
theorem meshOf_ok {s : Pts} {n : Nat} (h : LineIs s n) (hr : Rising s) : (n = s.length ∧ meshOf s = fun _ => none) ∨ (n < s.length ∧ meshOf s = meshK s n (s.length - n - 1) ∧ Ok s (meshOf s) ∧ Corners s (meshOf s)) := by
  have hle := h.le
  unfold meshOf
  rw [lineC_eq h]
  rcases Nat.lt_or_ge n s.length with c | c
  · right
    rw [if_neg (by omega)]
    have := (h.begun hr c).meshK (s.length - n - 1) (by omega)
    rw [show n + 1 + (s.length - n - 1) = s.length by omega, List.take_length] at this
    exact ⟨c, rfl, this.1, this.2⟩
  · left
    exact ⟨by omega, by rw [if_pos (by omega)]⟩

/-- All sides of a mesh, in their order. -/
def keysL (s : Pts) (m : Ms) : List Ed := (pairs s).filter fun e => (m e).isSome
/-- What the flips come to. -/
noncomputable def settledM (s : Pts) (m : Ms) : Ms := (steps (mu (pairs s) s (m, keysL s m)) (m, keysL s m)).1
theorem inv_start {s : Pts} {m : Ms} (h : Ok s m) : Inv s (m, keysL s m) := by
  refine ⟨h, fun u v hw => ?_⟩
  obtain ⟨l, r, h1, _, _⟩ := wrong_inv hw
  simp only at h1
  have := h.mem _ _ _ h1
  exact .inl (List.mem_filter.2 ⟨mem_pairs.2 ⟨this.1, this.2.1⟩, by rw [h1]; rfl⟩)
theorem settledM_ok {s : Pts} {m : Ms} (hs : s.Nodup) (h : Ok s m) (hc : Corners s m) : Ok s (settledM s m) ∧ Corners s (settledM s m) ∧ ∀ e, wrong (settledM s m) e = false := by
  have hi := inv_start h
  have hst := steps_stop (nodup_pairs hs) (fun u hu v hv => mem_pairs.2 ⟨hu, hv⟩) hi
  exact ⟨(steps_inv hi _).ok, steps_corners hi hc _, inv_end (steps_inv hi _) hst⟩

end Go.Proofs.YtgeoffpcmkofkaaGreat
/- The walk of 'seenFrom' of package mesh. -/
namespace Go.Proofs.YtgeoffpcmkofkaaGreat
open Go.RowKit Go.Maps Fl
set_option maxRecDepth 100000
attribute [local go_sem ↓] Go.wp_at_zero Go.wp_at_succ

/-- A row of directed sides, which the call has made. -/
def OwnE (w : World) (base : Nat) (v : Value) (l : List Ed) : Prop := w.ownsRow base 65 4 v l.length (l.flatMap encE)
theorem Tryz.info65 : (Tryz.prog.info? 65).map (fun i => (i.zero, i.size, i.bytes)) = some (some (.agg #[.int .i64 0, .int .i64 0, .int .i64 0, .int .i64 0]), 4, 32) := by kernel_rfl
theorem OwnE.new {w w' : World} {base : Nat} {v : Value} {l : List Ed} (h : OwnE w base v l) (hg : New w w') : OwnE w' base v l := World.ownsRow.kept h hg (by cases v.ownBlock <;> simp)
theorem OwnE.kept {w w' : World} {base r : Nat} {v : Value} {l : List Ed} (h : OwnE w base v l) (hg : w.grownBy w' (some r)) (hr : r < base) : OwnE w' base v l := by
  refine World.ownsRow.kept h hg ?_
  cases hv : v.ownBlock with
  | none => exact .inl rfl
  | some k => exact .inr (by have := (World.ownsRow.lt h k hv).1; simp; omega)

theorem New.ownO {w w1 w2 : World} {row : Option Nat} (h : New w w1) (h2 : w1.grownBy w2 row) (hr : ∀ k, row = some k → w.heap.size ≤ k) : New w w2 :=
  ⟨h2.os.trans h.os, h2.tape.trans h.tape, h2.output.trans h.output, Nat.le_trans h.size h2.size, fun k hk _ => (h2.block k (Nat.lt_of_lt_of_le hk h.size) (fun e => by have := hr k e.symm; omega)).trans (h.block k hk (by simp))⟩
/-- Where the loop stands. -/
structure SF (w wr : World) (b n : Nat) (m : Ms) (p : Pt) (v : Value) (vis L : List Ed) : Prop where
  rg : RangeE wr b (w.heap.size + 1) n m vis
  new : New w wr
  box : BoxP wr w.heap.size p
  own : OwnE wr (w.heap.size + 2) v L
  nd : L.Nodup
  iff : ∀ e, e ∈ L ↔ e ∈ vis ∧ SeenBy m p e
  sz : w.heap.size + 2 ≤ wr.heap.size
theorem SF.step {w wr wx : World} {b n : Nat} {m : Ms} {p : Pt} {v : Value} {vis vis' L : List Ed} (h : SF w wr b n m p v vis L) (hg : wr.grownBy wx (some (w.heap.size + 1))) (hr : RangeE wx b (w.heap.size + 1) n m vis') (hi : ∀ e, e ∈ L ↔ e ∈ vis' ∧ SeenBy m p e) : SF w wx b n m p v vis' L :=
  ⟨hr, h.new.own hg (by omega), h.box.grown hg (by simp), h.own.kept hg (by omega), h.nd, hi, Nat.le_trans h.sz hg.size⟩
theorem SF.next {w wr wx : World} {b n : Nat} {m : Ms} {p : Pt} {v : Value} {vis L : List Ed} (h : SF w wr b n m p v vis L) (hg : New wr wx) : SF w wx b n m p v vis L ∧ wx.rangeLeft b (w.heap.size + 1) = wr.rangeLeft b (w.heap.size + 1) := by
  obtain ⟨k1, k2⟩ := h.rg.kept hg (by simp) (by simp)
  exact ⟨⟨k1, h.new.trans' hg, h.box.new hg, h.own.new hg, h.nd, h.iff, Nat.le_trans h.sz hg.size⟩, k2⟩

set_option maxHeartbeats 3200000 in
theorem seenFrom_any (b n : Nat) (m : Ms) (p : Pt) (w : World) (PS : List Ed) (hm : MapE w b n m) (hp : CdP p) (hPS : ∀ e, (m e).isSome = true → e ∈ PS) (hlen : PS.length ≤ 1000000) :
    Calls Tryz.prog 38 #[.map (some b), .agg #[.int .i64 p.1, .int .i64 p.2]] w fun e w' => ∃ v L, e = .returned v ∧ Hid (New w w' ∧ SeenIs m p L ∧ OwnE w' w.heap.size v L) := by
  have H0 : Hid (MapE w b n m ∧ b < w.heap.size ∧ CdP p ∧ (∀ e, (m e).isSome = true → e ∈ PS)) := ⟨hm, hm.lt, hp, hPS⟩
  clear hm hp hPS
  obtain ⟨i0, hi0, hz0, hz1, hz2⟩ := info_parts Tryz.info65
  go_enter Tryz.func38, Tryz.ntmps38
  go_wp2_with (first
    | (at_range; refine wpList_rangeE _ rfl _ rfl b n m rfl (H0.out.1.new (New.alloc _ _)) ?_
       intro w0 r0 n0 s0
       have HS : Hid (SF w w0 b n m p (.slice none 0 0) [] []) := ⟨by simpa using r0, (New.alloc _ _).trans' n0, (BoxP.mk (by go_simp) (by go_simp) : BoxP _ _ p).new n0, World.ownsRow_nil _ _ _ _, List.nodup_nil, (fun e => by simp), by rw [s0]; simp⟩
       clear r0 n0 s0)
    | go_in)
  go_frame
  rw [show (w.alloc (.cells #[.int .i64 p.1, .int .i64 p.2] 36)).heap.size = w.heap.size + 1 by simp]
  go_loopw [5] (fun v wr => ∃ vis L, Hid (SF w wr b n m p v vis L)) (fun _ wr => wr.rangeLeft b (w.heap.size + 1))
  case atStart => exact ⟨[], [], HS⟩
  case round =>
    obtain ⟨vis, L, H⟩ := hrel
    go_wp2_with (first
      | (at_next; refine wpList_nextE _ rfl _ rfl b (w.heap.size + 1) n m vis rfl H.out.rg ?_ ?_)
      | go_in)
    · intro hall
      have HF : Hid (SeenIs m p L) := ⟨H.out.nd, fun e => by rw [H.out.iff]; exact ⟨fun k => k.2, fun k => ⟨hall e.1.1 e.1.2 e.2.1 e.2.2 k.1.1, k⟩⟩⟩
      clear hall
      go_wp2_with fail
      go_ret
      exact ⟨_, L, rfl, H.out.new, HF.out, ⟨H.out.own.1, H.out.own.2.imp id fun ⟨g, cap, cur, a1, a2, a3⟩ => ⟨g, cap, cur, a1, by omega, a3⟩⟩⟩
    · intro ex ey fx fy cx cy w1 hmc he hnv hr1 hlt hg1 hs1 hen
      have HM : Hid (m ((ex, ey), (fx, fy)) = some (cx, cy) ∧ CdE ((ex, ey), (fx, fy)) ∧ ((ex, ey), (fx, fy)) ∉ vis ∧ RangeE w1 b (w.heap.size + 1) n m (vis ++ [((ex, ey), (fx, fy))]) ∧ w1.rangeLeft b (w.heap.size + 1) < wr.rangeLeft b (w.heap.size + 1) ∧ wr.grownBy w1 (some (w.heap.size + 1))) := ⟨hmc, he, hnv, hr1, hlt, hg1⟩
      have HE : Hid (CdE ((fx, fy), (ex, ey))) := ⟨he.2, he.1⟩
      have H1 : Hid (New w w1 ∧ MapE w1 b n m ∧ BoxP w1 w.heap.size p ∧ OwnE w1 (w.heap.size + 2) u5 L ∧ w.heap.size + 2 ≤ w1.heap.size) := ⟨H.out.new.own hg1 (by omega), hr1.owns, H.out.box.grown hg1 (by simp), H.out.own.kept hg1 (by omega), Nat.le_trans H.out.sz hg1.size⟩
      clear hmc he hnv hr1 hlt hg1 hs1
      -- what stays as it is
      have HStay : Hid (∀ wx, New w1 wx → ¬SeenBy m p ((ex, ey), (fx, fy)) → ∃ vis L, Hid (SF w wx b n m p u5 vis L) ∧ wx.rangeLeft b (w.heap.size + 1) < wr.rangeLeft b (w.heap.size + 1)) := by
        intro wx hx hns
        have s1 := H.out.step HM.out.2.2.2.2.2 HM.out.2.2.2.1 (fun e => by
          rw [H.out.iff]
          simp only [List.mem_append, List.mem_singleton]
          constructor
          · exact fun k => ⟨.inl k.1, k.2⟩
          · rintro ⟨k | k, k2⟩
            · exact ⟨k, k2⟩
            · rw [k] at k2; exact absurd k2 hns)
        obtain ⟨s2, s3⟩ := s1.next hx
        exact ⟨_, _, s2, by rw [s3]; exact HM.out.2.2.2.2.1⟩
      cases hrev : m ((fx, fy), (ex, ey)) with
      | some z =>
        have HNS : Hid (¬SeenBy m p ((ex, ey), (fx, fy))) := fun k => by have := k.1.2; simp only at this; rw [hrev] at this; cases this
        go_wp2_with (first
          | (go_at_call 63; refine (reverse_any ex ey fx fy _).mono ?_
             rintro e w2 ⟨rfl, G2⟩
             have N2 : Hid (New w1 w2) := ((New.refl w1).alloc' _).trans' G2.out
             clear G2)
          | (at_lookup; refine wpList_lookE_some _ rfl _ _ rfl b n m rfl (H1.out.2.1.new N2.out) ((fx, fy), (ex, ey)) rfl hrev ?_)
          | go_in)
        obtain ⟨vis', L', k1, k2⟩ := HStay.out _ (N2.out.alloc' _) HNS.out
        exact ⟨⟨_, _, k1⟩, k2⟩
      | none =>
        have HLn : Hid (L.length ≤ 1000000) := by
          refine Nat.le_trans (length_le_of_sub (l₂ := PS) H.out.nd fun e he => ?_) hlen
          exact H0.out.2.2.2 e ((H.out.iff e).1 he).2.1.1
        by_cases hd : D (ex, ey) (fx, fy) p < 0
        · have hs : sgn (det ex ey fx fy p.1 p.2) < 0 := sgn_neg'.2 hd
          have HSB : Hid (SeenBy m p ((ex, ey), (fx, fy))) := ⟨⟨by rw [HM.out.1]; rfl, hrev⟩, hd⟩
          go_wp2_with (first
            | (go_at_call 63; refine (reverse_any ex ey fx fy _).mono ?_
               rintro e w2 ⟨rfl, G2⟩
               have N2 : Hid (New w1 w2) := ((New.refl w1).alloc' _).trans' G2.out
               have B2 : Hid (BoxE w2 w1.heap.size ((ex, ey), (fx, fy)) ∧ BoxP w2 w.heap.size p) := ⟨(BoxE.mk (by go_simp) (by go_simp) (by go_simp) (by go_simp) : BoxE _ _ ((ex, ey), (fx, fy))).new G2.out, H1.out.2.2.1.new N2.out⟩
               have lt0 : w1.heap.size < w2.heap.size := World.block_lt_of_cell? w2 _ B2.out.1.c0
               have lt1 : w.heap.size < w2.heap.size := World.block_lt_of_cell? w2 _ B2.out.2.c0
               clear G2
               obtain ⟨⟨x0, x1, x2, x3⟩, y0, y1⟩ := B2.out)
            | (at_lookup; refine wpList_lookE_none _ rfl _ _ rfl b n m rfl (H1.out.2.1.new N2.out) ((fx, fy), (ex, ey)) rfl HE.out hrev ?_)
            | (go_at_call 24; refine (of_any ex ey fx fy p.1 p.2 _ HM.out.2.1.1.1 HM.out.2.1.1.2 HM.out.2.1.2.1 HM.out.2.1.2.2 H0.out.2.2.1.1 H0.out.2.2.1.2).mono ?_
               rintro e w3 ⟨rfl, G3⟩
               have N3 : Hid (New w1 w3) := (N2.out.alloc' _).trans' G3.out
               have B3 : Hid (BoxE w3 w1.heap.size ((ex, ey), (fx, fy))) := (B2.out.1.new (New.alloc _ _)).new G3.out
               have lt2 : w1.heap.size < w3.heap.size := World.block_lt_of_cell? w3 _ B3.out.c0
               clear G3 x0 x1 x2 x3 y0 y1 lt0 lt1
               obtain ⟨x0, x1, x2, x3⟩ := B3.out)
            | (at_builtin; refine wpList_append_own _ rfl _ _ 62 rfl (w.heap.size + 2) 65 i0 (.agg #[.int .i64 0, .int .i64 0, .int .i64 0, .int .i64 0]) 4 32 Tryz.underlying62 hi0 hz0 hz1 hz2 rfl (by decide) _ _ _ rfl (World.ownsRow.alloc (H1.out.2.2.2.1.new N3.out) _) ⟨w3.heap.size, 0, none⟩ 1 1 [.int .i64 ex, .int .i64 ey, .int .i64 fx, .int .i64 fy] rfl rfl (World.news_of_block (cs := #[.int .i64 ex, .int .i64 ey, .int .i64 fx, .int .i64 fy]) (t := 65) (fr := (0, 0)) (heap_alloc_new w3 _)) (by simp [Value.oneCell']) (by unfold maxLen; have := HLn.out; omega) (by have := HLn.out; omega) (by have := N3.out.size; have := H1.out.2.2.2.2; simp; omega) ?_
               intro v' w4 o4 g4 _
               have HA : Hid (OwnE w4 (w.heap.size + 2) v' (L ++ [((ex, ey), (fx, fy))]) ∧ (w3.alloc (.cells #[.int .i64 ex, .int .i64 ey, .int .i64 fx, .int .i64 fy] 65)).grownBy w4 u5.ownBlock) := ⟨by unfold OwnE; rw [List.length_append, List.flatMap_append]; exact o4, g4⟩
               clear o4 g4)
            | go_in)
          have hlo : ∀ k, u5.ownBlock = some k → w.heap.size + 2 ≤ k := fun k hk => (World.ownsRow.lt H1.out.2.2.2.1 k hk).1
          have hbw := H0.out.2.1
          obtain ⟨r1, r2⟩ := HM.out.2.2.2.1.kept (N3.out.alloc' _) (by simp) (by simp)
          obtain ⟨r3, r4⟩ := r1.kept HA.out.2 (fun e => by have := hlo b e.symm; omega) (fun e => by have := hlo _ e.symm; omega)
          refine ⟨⟨_, _, r3, ?_, ?_, HA.out.1, ?_, fun e => ?_, ?_⟩, by rw [r4, r2]; exact HM.out.2.2.2.2.1⟩
          · exact (H1.out.1.trans' (N3.out.alloc' _)).ownO HA.out.2 (fun k hk => by have := hlo k hk; omega)
          · exact (H1.out.2.2.1.new (N3.out.alloc' _)).grown HA.out.2 (fun e => by have := hlo _ e.symm; omega)
          · rw [List.nodup_append]
            refine ⟨H.out.nd, by simp, fun a ha c hc => ?_⟩
            simp at hc
            subst hc
            exact fun e => HM.out.2.2.1 (e ▸ ((H.out.iff a).1 ha).1)
          · simp only [List.mem_append, List.mem_singleton]
            constructor
            · rintro (k | k)
              · exact ⟨.inl ((H.out.iff e).1 k).1, ((H.out.iff e).1 k).2⟩
              · rw [k]; exact ⟨.inr rfl, HSB.out⟩
            · rintro ⟨k | k, k2⟩
              · exact .inl ((H.out.iff e).2 ⟨k, k2⟩)
              · exact .inr k
          · have a1 := HA.out.2.size
            have a2 := N3.out.size
            have a3 := H1.out.2.2.2.2
            simp at a1
            omega
        · have hs : ¬sgn (det ex ey fx fy p.1 p.2) < 0 := fun c => hd (sgn_neg'.1 c)
          have HNS : Hid (¬SeenBy m p ((ex, ey), (fx, fy))) := fun k => hd k.2
          go_wp2_with (first
            | (go_at_call 63; refine (reverse_any ex ey fx fy _).mono ?_
               rintro e w2 ⟨rfl, G2⟩
               have N2 : Hid (New w1 w2) := ((New.refl w1).alloc' _).trans' G2.out
               have B2 : Hid (BoxE w2 w1.heap.size ((ex, ey), (fx, fy)) ∧ BoxP w2 w.heap.size p) := ⟨(BoxE.mk (by go_simp) (by go_simp) (by go_simp) (by go_simp) : BoxE _ _ ((ex, ey), (fx, fy))).new G2.out, H1.out.2.2.1.new N2.out⟩
               have lt0 : w1.heap.size < w2.heap.size := World.block_lt_of_cell? w2 _ B2.out.1.c0
               have lt1 : w.heap.size < w2.heap.size := World.block_lt_of_cell? w2 _ B2.out.2.c0
               clear G2
               obtain ⟨⟨x0, x1, x2, x3⟩, y0, y1⟩ := B2.out)
            | (at_lookup; refine wpList_lookE_none _ rfl _ _ rfl b n m rfl (H1.out.2.1.new N2.out) ((fx, fy), (ex, ey)) rfl HE.out hrev ?_)
            | (go_at_call 24; refine (of_any ex ey fx fy p.1 p.2 _ HM.out.2.1.1.1 HM.out.2.1.1.2 HM.out.2.1.2.1 HM.out.2.1.2.2 H0.out.2.2.1.1 H0.out.2.2.1.2).mono ?_
               rintro e w3 ⟨rfl, G3⟩
               have N3 : Hid (New w1 w3) := (N2.out.alloc' _).trans' G3.out
               have B3 : Hid (BoxE w3 w1.heap.size ((ex, ey), (fx, fy))) := (B2.out.1.new (New.alloc _ _)).new G3.out
               have lt2 : w1.heap.size < w3.heap.size := World.block_lt_of_cell? w3 _ B3.out.c0
               clear G3 x0 x1 x2 x3 y0 y1 lt0 lt1
               obtain ⟨x0, x1, x2, x3⟩ := B3.out)
            | go_in)
          obtain ⟨vis', L', k1, k2⟩ := HStay.out _ N3.out HNS.out
          exact ⟨⟨_, _, k1⟩, k2⟩

end Go.Proofs.YtgeoffpcmkofkaaGreat
/- The walk of 'sweep' of package mesh. -/
namespace Go.Proofs.YtgeoffpcmkofkaaGreat
open Go.RowKit Go.Maps Fl
set_option maxRecDepth 100000
attribute [local go_sem ↓] Go.wp_at_zero Go.wp_at_succ

theorem pairs_length (s : Pts) : (pairs s).length = s.length * s.length := by
  have key : ∀ t : Pts, (t.flatMap fun u => s.map fun v => (u, v)).length = t.length * s.length := by
    intro t
    induction t with
    | nil => simp
    | cons a t ih => rw [List.flatMap_cons, List.length_append, ih, List.length_map, List.length_cons, Nat.add_mul]; omega
  exact key s
theorem mesh_next {s : Pts} {n k : Nat} {L : List Ed} (h : Begun s n) (hk : n + 1 + k < s.length) (hL : SeenIs (meshK s n k) (ptAt s (n + 1 + k)) L) : addAll (meshK s n k) L (ptAt s (n + 1 + k)) = meshK s n (k + 1) := by
  have hok := (h.meshK k (by omega)).1
  have hp : ptAt s (n + 1 + k) ∉ s.take (n + 1 + k) := by
    intro hx
    obtain ⟨i, hi⟩ := List.mem_iff_getElem?.1 hx
    have hil : i < n + 1 + k := by have := (List.getElem?_eq_some_iff.1 hi).1; simp at this; omega
    rw [List.getElem?_take_of_lt hil] at hi
    have := h.rising i (n + 1 + k) _ _ hi (ptAt_get hk) hil
    omega
  have hL' := seenL_is (p := ptAt s (n + 1 + k)) h.rising.nodup hok (fun x hx => List.mem_of_mem_take hx)
  exact addAll_same (seen_joins hok hp hL) (seen_joins hok hp hL') fun e => by rw [hL.iff, hL'.iff]
theorem addAll_snoc (m : Ms) (L : List Ed) (e : Ed) (p : Pt) : addAll m (L ++ [e]) p = addM (addAll m L p) e.2 e.1 p := by simp [addAll]
theorem OwnE.form {w : World} {base : Nat} {v : Value} {l : List Ed} (h : OwnE w base v l) : (v = .slice none 0 0 ∧ l = []) ∨ ∃ g cap, v = .slice (some ⟨g, 0, none⟩) l.length cap ∧ base ≤ g ∧ g < w.heap.size ∧ l.length ≤ cap ∧ cap ≤ maxLen := by
  rcases h.2 with ⟨e, hn⟩ | ⟨g, cap, cur, e, hb, hg, h1, h2, _⟩
  · exact .inl ⟨e, List.eq_nil_of_length_eq_zero hn⟩
  · exact .inr ⟨g, cap, e, hb, (Array.getElem?_eq_some_iff.1 hg).1, h1, h2⟩
theorem flatE_get (l : List Ed) (i : Nat) (h : i < l.length) : (l.flatMap encE)[i * 4]? = some (.int .i64 l[i].1.1) ∧ (l.flatMap encE)[i * 4 + 1]? = some (.int .i64 l[i].1.2) ∧ (l.flatMap encE)[i * 4 + 2]? = some (.int .i64 l[i].2.1) ∧ (l.flatMap encE)[i * 4 + 3]? = some (.int .i64 l[i].2.2) := by
  induction l generalizing i with
  | nil => simp at h
  | cons a l ih =>
    cases i with
    | zero => exact ⟨rfl, rfl, rfl, rfl⟩
    | succ i =>
      have := ih i (by simpa using h)
      have e1 : (i + 1) * 4 = i * 4 + 1 + 1 + 1 + 1 := by omega
      rw [e1]
      simpa [encE] using this
theorem OwnE.cell {w : World} {base g cap : Nat} {l : List Ed} (h : OwnE w base (.slice (some ⟨g, 0, none⟩) l.length cap) l) {i : Nat} (hi : i < l.length) :
    w.cell? ⟨g, i * 4, none⟩ = some (.int .i64 l[i].1.1) ∧ w.cell? ⟨g, i * 4 + 1, none⟩ = some (.int .i64 l[i].1.2) ∧ w.cell? ⟨g, i * 4 + 2, none⟩ = some (.int .i64 l[i].2.1) ∧ w.cell? ⟨g, i * 4 + 3, none⟩ = some (.int .i64 l[i].2.2) := by
  have f := flatE_get l i hi
  exact ⟨(World.ownsRow.cellAt h _ (by omega)).trans f.1, (World.ownsRow.cellAt h _ (by omega)).trans f.2.1, (World.ownsRow.cellAt h _ (by omega)).trans f.2.2.1, (World.ownsRow.cellAt h _ (by omega)).trans f.2.2.2⟩

/-- Where the sweep stands: k points behind the line and its first neighbour are joined. -/
structure SW (w wr : World) (base g cap : Nat) (s : Pts) (n k : Nat) : Prop where
  new : New w wr
  own : OwnP wr base (.slice (some ⟨g, 0, none⟩) s.length cap) s
  map : MapE wr w.heap.size (200 + 4000000 * k) (meshK s n k)
theorem SW.next {w wr wx : World} {base g cap : Nat} {s : Pts} {n k : Nat} (h : SW w wr base g cap s n k) (hg : New wr wx) : SW w wx base g cap s n k := ⟨h.new.trans' hg, h.own.new hg, h.map.new hg⟩

/-- Within a point: i of the sides that it sees are joined to it. -/
structure IN (w wr : World) (base g cap : Nat) (s : Pts) (c bq : Nat) (m : Ms) (q : Pt) (B : Nat) (v : Value) (L : List Ed) (i : Nat) : Prop where
  new : New w wr
  own : OwnP wr base (.slice (some ⟨g, 0, none⟩) s.length cap) s
  map : MapE wr w.heap.size (c + 3 * i) (addAll m (L.take i) q)
  box : BoxP wr bq q
  row : OwnE wr B v L
theorem IN.next {w wr wx : World} {base g cap : Nat} {s : Pts} {c bq : Nat} {m : Ms} {q : Pt} {B : Nat} {v : Value} {L : List Ed} {i : Nat} (h : IN w wr base g cap s c bq m q B v L i) (hi : i < L.length) (h1 : MapE wx w.heap.size (c + 3 * i + 3) (addM (addAll m (L.take i) q) L[i].2 L[i].1 q)) (hg : wr.grownBy wx (some w.heap.size)) (hgw : g < w.heap.size) (hbq : w.heap.size < bq) (hB : w.heap.size < B) : IN w wx base g cap s c bq m q B v L (i + 1) := by
  refine ⟨h.new.own hg (Nat.le_refl _), World.ownsRow.kept h.own hg (.inr (by simp [Value.ownBlock]; omega)), ?_, h.box.grown hg (by simp; omega), h.row.kept hg hB⟩
  have e : L.take (i + 1) = L.take i ++ [L[i]] := by rw [List.take_add_one, List.getElem?_eq_getElem hi]; rfl
  rw [e, addAll_snoc]
  exact h1

set_option maxHeartbeats 3200000 in
theorem sweep_some (base g cap N : Nat) (s : Pts) (w : World) (HN : Hid (s.length = N)) (h : OwnP w base (.slice (some ⟨g, 0, none⟩) s.length cap) s) (hg : g < w.heap.size) (hr : Rising s) (hc : ∀ x ∈ s, CdP x) (h40 : N ≤ 40) (hcap : N ≤ cap) :
    Calls Tryz.prog 26 #[.slice (some ⟨g, 0, none⟩) N cap] w fun e w' => ∃ b, e = .returned (.map (some b)) ∧ Hid (New w w' ∧ w.heap.size ≤ b ∧ MapE w' b 1000000000 (meshOf s)) := by
  have H : Hid (OwnP w base (.slice (some ⟨g, 0, none⟩) s.length cap) s ∧ g < w.heap.size ∧ Rising s ∧ ∀ x ∈ s, CdP x) := ⟨h, hg, hr, hc⟩
  have hmm := @run_makeMap Tryz.prog 51 w
  clear h hg hr hc
  go_enter Tryz.func26, Tryz.ntmps26
  go_wp2_with fail
  refine (inLine_gen base g cap N s _ HN (H.out.1.new (New.alloc _ _)) (by omega) H.out.2.2.2).mono ?_
  rintro e w1 ⟨n, rfl, H1⟩
  have HL : Hid (LineIs s n ∧ New (w.alloc (.map #[] 0)) w1) := by
    refine ⟨⟨H1.out.2.1.ge, H1.out.2.1.le, H1.out.2.1.line, fun k => H1.out.2.2 (by have := HN.out; omega)⟩, H1.out.1⟩
  have hnN : n ≤ N := by have := HL.out.1.le; have := HN.out; omega
  clear H1
  by_cases hn : n = N
  · have HM : Hid (meshOf s = fun _ => none) := by
      rcases meshOf_ok HL.out.1 H.out.2.2.1 with k | k
      · exact k.2
      · exfalso; have := HN.out; omega
    subst hn
    go_wp2_with fail
    go_ret
    exact ⟨_, rfl, (New.alloc _ _).trans' HL.out.2, Nat.le_refl _, by rw [HM.out]; exact ((mapE_made w).new HL.out.2).mono (by omega)⟩
  · have HB : Hid (Begun s n ∧ meshOf s = meshK s n (N - n - 1)) := by
      have hN := HN.out
      rcases meshOf_ok HL.out.1 H.out.2.2.1 with k | k
      · exfalso; omega
      · exact ⟨HL.out.1.begun H.out.2.2.1 k.1, by rw [k.2.1, hN]⟩
    have hn2 : 2 ≤ n := HB.out.1.two
    have hnl : n < N := by omega
    have HO : Hid (OwnP w1 base (.slice (some ⟨g, 0, none⟩) s.length cap) s) := H.out.1.new ((New.alloc _ _).trans' HL.out.2)
    obtain ⟨x0, x1⟩ := HO.out.cell (show n < s.length by have := HN.out; omega)
    rw [← ptAt_eq] at x0 x1
    obtain ⟨p, hp⟩ : ∃ p, p = ptAt s n := ⟨_, rfl⟩
    rw [← hp] at x0 x1
    have HP : Hid (p = ptAt s n) := hp
    clear hp
    have i0 : (0 : Int) ≤ (n : Int) := by omega
    have i1 : (n : Int) < (N : Int) := by omega
    have i2 : (n : Int) ≤ (N : Int) := by omega
    have i3 : (n : Int) ≤ (cap : Int) := by omega
    have i4 : (N : Int) ≤ (cap : Int) := by omega
    have i5 : n ≤ cap := by omega
    have hw1 : IntKind.i64.wrap ((n : Int) + 1) = (n : Int) + 1 := by rw [IntKind.wrap_i64]; omega
    have HJ : Hid (∀ W, New w1 W → Calls Tryz.prog 37 #[.map (some w.heap.size), .slice (some ⟨g, 0, none⟩) n cap, .agg #[.int .i64 p.1, .int .i64 p.2]] W fun e w' => e = .returned (.tuple #[]) ∧ Hid (MapE w' w.heap.size (0 + 3 * (n - 1)) (joinN (s.take n) p (fun _ => none) (n - 1)) ∧ W.grownBy w' (some w.heap.size))) := by
      intro W hW
      have hN := HN.out
      have hg := H.out.2.1
      have hsz : w.heap.size < w1.heap.size := by have := HL.out.2.size; simp at this; omega
      refine joinLine_any w.heap.size 0 g cap n (s.take n) p (fun _ => none) W ?_ (((mapE_made w).new HL.out.2).new hW) (by unfold maxLen; omega) ?_ (Nat.lt_of_lt_of_le (by omega) hW.size) (by omega) (by omega) hn2 (by omega) ?_ ?_
      · show (s.take n).length = n
        simp; omega
      · intro i hi
        have hin : i < n := by simp at hi; omega
        have := (HO.out.new hW).cell (show i < s.length by omega)
        rw [Nat.zero_add, List.getElem_take]
        exact this
      · exact fun x hx => H.out.2.2.2 x (List.mem_of_mem_take hx)
      · rw [HP.out]; exact H.out.2.2.2 _ (ptAt_mem (by omega))
    go_wp2_with fail
    go_region_held3 (fun V => V.cell? ⟨g, n * 2, none⟩ = some (.int .i64 p.1) ∧ V.cell? ⟨g, n * 2 + 1, none⟩ = some (.int .i64 p.2))
      (first | exact ⟨z0, z1⟩ | go_keep)
      (first | (go_at_call 37; refine (HJ.out _ (New.refl w1).dr).mono ?_
                rintro e w2 ⟨rfl, H2⟩
                have z0 : w2.cell? ⟨g, n * 2, none⟩ = some (.int .i64 p.1) := grown_cell H2.out.2 (by have := H.out.2.1; simp; omega) x0
                have z1 : w2.cell? ⟨g, n * 2 + 1, none⟩ = some (.int .i64 p.2) := grown_cell H2.out.2 (by have := H.out.2.1; simp; omega) x1))
    have HS : Hid (SW w w2 base g cap s n 0) := by
      have hg := H.out.2.1
      refine ⟨(((New.alloc _ _).trans' HL.out.2).dr).own H2.out.2 (Nat.le_refl _), ?_, ?_⟩
      · exact World.ownsRow.kept (HO.out.new (New.refl w1).dr) H2.out.2 (.inr (by simp [Value.ownBlock]; omega))
      · have := H2.out.1.mono (n' := 200 + 4000000 * 0) (by omega)
        rw [HP.out] at this
        exact this
    clear HJ HO HL H2 x0 x1 z0 z1 HP i0
    have i6 : n + 1 ≤ N := by omega
    have i7 : (n : Int) + 1 ≤ (N : Int) := by omega
    have i8 : (0 : Int) ≤ (n : Int) + 1 := by omega
    have i9 : (n : Int) + 1 ≤ (cap : Int) := by omega
    have i10 : n + 1 ≤ cap := by omega
    by_cases hcn : cap = n + 1
    · have HZ : Hid (N - n - 1 = 0) := by rw [Hid]; omega
      have e1 : N = n + 1 := by omega
      subst e1
      subst hcn
      go_wp2_with fail
      go_loopw [31] (fun v wr => v = .int .i64 0 ∧ Hid (SW w wr base g (n + 1) s n 0)) (fun _ _ => 0)
      case atStart => exact ⟨rfl, HS⟩
      case round =>
        obtain ⟨rfl, HR⟩ := hrel
        go_wp2_with fail
        go_ret
        exact ⟨_, rfl, HR.out.new, Nat.le_refl _, by rw [HB.out.2, HZ.out]; exact HR.out.map.mono (by omega)⟩
    · go_wp2_with fail
      go_loopw [31] (fun v wr => ∃ k : Nat, v = .int .i64 (k : Int) ∧ k ≤ N - (n + 1) ∧ Hid (SW w wr base g cap s n k)) (fun v _ => N - (n + 1) - (intOf v).toNat)
      case atStart => exact ⟨0, rfl, Nat.zero_le _, HS⟩
      case round =>
        obtain ⟨k, rfl, hk, HR⟩ := hrel
        rcases Nat.lt_or_ge k (N - (n + 1)) with hk' | hk'
        · obtain ⟨x0, x1⟩ := HR.out.own.cell (show n + 1 + k < s.length by have := HN.out; omega)
          rw [← ptAt_eq] at x0 x1
          obtain ⟨q, hq⟩ : ∃ q, q = ptAt s (n + 1 + k) := ⟨_, rfl⟩
          rw [← hq] at x0 x1
          rw [Nat.add_mul] at x0 x1
          have HQ : Hid (q = ptAt s (n + 1 + k) ∧ CdP q) := ⟨hq, by rw [hq]; exact H.out.2.2.2 _ (ptAt_mem (by have := HN.out; omega))⟩
          clear hq
          have j0 : (0 : Int) ≤ (k : Int) := by omega
          have j1 : (k : Int) < ((N - (n + 1) : Nat) : Int) := by omega
          have hw2 : IntKind.i64.wrap ((k : Int) + 1) = (k : Int) + 1 := by rw [IntKind.wrap_i64]; omega
          have HOK : Hid (Ok (s.take (n + 1 + k)) (meshK s n k)) := (HB.out.1.meshK k (by have := HN.out; omega)).1
          have HPS : Hid (∀ e, (meshK s n k e).isSome = true → e ∈ pairs s) := fun e he => by
            obtain ⟨c, hc⟩ := isSome_get he
            have := HOK.out.mem e.1 e.2 c hc
            exact mem_pairs.2 ⟨List.mem_of_mem_take this.1, List.mem_of_mem_take this.2.1⟩
          have HPL : Hid ((pairs s).length ≤ 1600) := by
            rw [Hid, pairs_length]
            exact Nat.le_trans (Nat.mul_le_mul (show s.length ≤ 40 by have := HN.out; omega) (show s.length ≤ 40 by have := HN.out; omega)) (by omega)
          go_wp2_with fail
          refine (seenFrom_any w.heap.size _ (meshK s n k) q _ (pairs s) (HR.out.map.new (New.alloc _ _)) HQ.out.2 HPS.out (by have := HPL.out; omega)).mono ?_
          rintro e w3 ⟨v3, L, rfl, H3⟩
          have HW3 : Hid (SW w w3 base g cap s n k ∧ BoxP w3 wr.heap.size q) := ⟨HR.out.next ((New.alloc _ _).trans' H3.out.1), (BoxP.mk (by go_simp) (by go_simp) : BoxP _ _ q).new H3.out.1⟩
          have HNX : Hid (addAll (meshK s n k) L q = meshK s n (k + 1)) := by
            have := mesh_next (L := L) HB.out.1 (show n + 1 + k < s.length by have := HN.out; omega) (by rw [← HQ.out.1]; exact H3.out.2.1)
            rw [← HQ.out.1] at this
            exact this
          have HLL : Hid (L.length ≤ 1600) := by
            refine Nat.le_trans (length_le_of_sub (l₂ := pairs s) H3.out.2.1.nd fun e he => ?_) HPL.out
            exact HPS.out e ((H3.out.2.1.iff e).1 he).1.1
          have hwr : w.heap.size < wr.heap.size := HR.out.map.lt
          rcases H3.out.2.2.form with ⟨e1, e2⟩ | ⟨g3, c3, e1, hb3, hg3, hlc, hcm3⟩
          · subst e1 e2
            go_wp2_with fail
            go_loopw [39] (fun v wx => v = .int .i64 0 ∧ Hid (SW w wx base g cap s n k)) (fun _ _ => 0)
            case atStart => exact ⟨rfl, HW3.out.1⟩
            case round =>
              obtain ⟨rfl, HT⟩ := hrel
              go_wp2_with fail
              go_roundw
              case rel =>
                refine ⟨k + 1, by go_num, by omega, HT.out.new, HT.out.own, ?_⟩
                rw [← HNX.out]
                exact HT.out.map.mono (by omega)
              case measure => simp [intOf]; omega
          · subst e1
            have HIN : Hid (IN w w3 base g cap s (200 + 4000000 * k) wr.heap.size (meshK s n k) q (wr.heap.size + 1) (.slice (some ⟨g3, 0, none⟩) L.length c3) L 0 ∧ (∀ e ∈ L, CdE e)) := by
              refine ⟨⟨HW3.out.1.new, HW3.out.1.own, HW3.out.1.map, HW3.out.2, ?_⟩, fun e he => ?_⟩
              · have := H3.out.2.2
                simpa using this
              · exact HW3.out.1.map.sup (isSome_get ((H3.out.2.1.iff e).1 he).1.1).choose_spec
            clear H3 HW3 x0 x1
            generalize wr = ws at *
            generalize hLn : L.length = M at *
            have HLM : Hid (L.length = M) := hLn
            clear hLn
            go_wp2_with fail
            go_loopw [39] (fun v wx => ∃ i : Nat, v = .int .i64 (i : Int) ∧ i ≤ M ∧ Hid (IN w wx base g cap s (200 + 4000000 * k) ws.heap.size (meshK s n k) q (ws.heap.size + 1) (.slice (some ⟨g3, 0, none⟩) M c3) L i)) (fun v _ => M - (intOf v).toNat)
            case atStart => exact ⟨0, rfl, Nat.zero_le _, HIN.out.1⟩
            case round =>
              obtain ⟨i, rfl, hi, HT⟩ := hrel
              rcases Nat.lt_or_ge i M with hi' | hi'
              · have hiL : i < L.length := by have := HLM.out; omega
                have hrow := HT.out.row
                rw [← HLM.out] at hrow
                obtain ⟨y0, y1, y2, y3⟩ := hrow.cell hiL
                obtain ⟨e, he⟩ : ∃ e, e = L[i] := ⟨_, rfl⟩
                rw [← he] at y0 y1 y2 y3
                have HEE : Hid (e = L[i] ∧ CdE e ∧ i < L.length) := ⟨he, by rw [he]; exact HIN.out.2 _ (List.getElem_mem hiL), hiL⟩
                obtain ⟨z0, z1⟩ := HT.out.box
                have l1 : ws.heap.size < wr.heap.size := World.block_lt_of_cell? wr _ z0
                have l2 : g3 < wr.heap.size := World.block_lt_of_cell? wr _ y0
                clear he hrow
                have m0 : (0 : Int) ≤ (i : Int) := by omega
                have m1 : (i : Int) < (M : Int) := by omega
                have hw3 : IntKind.i64.wrap ((i : Int) + 1) = (i : Int) + 1 := by rw [IntKind.wrap_i64]; have := HLL.out; omega
                go_wp2_with fail
                refine (add_any w.heap.size (200 + 4000000 * k + 3 * i) _ e.2 e.1 q _ (HT.out.map.new (New.alloc _ _)) (by unfold maxLen; have := HLL.out; omega) HEE.out.2.1.2 HEE.out.2.1.1 HQ.out.2).mono ?_
                rintro x w5 ⟨rfl, A5⟩
                have H5 : Hid (IN w w5 base g cap s (200 + 4000000 * k) ws.heap.size (meshK s n k) q (ws.heap.size + 1) (.slice (some ⟨g3, 0, none⟩) M c3) L (i + 1)) := by
                  have a1 := A5.out.1
                  rw [HEE.out.1] at a1
                  exact HT.out.next HEE.out.2.2 a1 (((New.alloc _ _).but _).trans A5.out.2) H.out.2.1 hwr (by omega)
                clear A5 y0 y1 y2 y3 z0 z1
                go_wp2_with fail
                go_roundw
                case rel => exact ⟨i + 1, by go_num, hi', H5⟩
                case measure => simp [intOf]; omega
              · have HZ : Hid (L.take i = L) := by
                  have := HLM.out
                  exact List.take_of_length_le (by omega)
                go_wp2_with fail
                go_roundw
                case rel =>
                  refine ⟨k + 1, by go_num, by omega, HT.out.new, HT.out.own, ?_⟩
                  have a1 := HT.out.map
                  rw [HZ.out, HNX.out] at a1
                  exact a1.mono (by have := HLL.out; omega)
                case measure => simp [intOf]; omega
        · have e : N - n - 1 = k := by omega
          have HZ : Hid (N - n - 1 = k) := e
          go_wp2_with fail
          go_ret
          exact ⟨_, rfl, HR.out.new, Nat.le_refl _, by rw [HB.out.2, HZ.out]; exact HR.out.map.mono (by omega)⟩

end Go.Proofs.YtgeoffpcmkofkaaGreat
/- Going through a map's sides by an iterator: 'Keys' of package maps, 'AppendSeq', 'Collect' and 'SortedFunc' of package slices. -/
namespace Go.Proofs.YtgeoffpcmkofkaaGreat
open Go.RowKit Go.Maps Fl
set_option maxRecDepth 100000

section
variable {F : Fence} {k : Nat} (w : World) {ops : Array Oper} {rest : List Oper} {o : Oper} {a : Act} {Q : Exit → Act → World → Prop}
theorem wpListIn_rangeE (hg : o.guard = none) (x : Operand) (hop : o.op = Op.range 51 x) (b n : Nat) (m : Ms) (hm : a.eval x = .map (some b)) (h : MapE w b n m)
    (hK : ∀ w', RangeE w' b w.heap.size n m [] → New w w' → w'.heap.size = w.heap.size + 1 → wpListIn F k Tryz.prog ops Q rest (a.put o.dst (.pointer (some ⟨w.heap.size, 0, none⟩))) w') : wpListIn F k Tryz.prog ops Q (o :: rest) a w := by
  refine wpListIn_plain hg fun K' hK' => ?_
  obtain ⟨w', hr, r1, r2, r3⟩ := h.range
  unfold Oper.wpIn
  refine ⟨by simp [Oper.about, hop], ?_⟩
  rw [Oper.semAt_plain F _ _ (by rw [hop]; intro c hc'; cases hc')]
  simp [execOp, hop, hm, hr, Result.andThen]
  exact hK' _ _ (hK w' r1 r2 r3)
theorem wpListIn_nextE (hg : o.guard = none) (it : Operand) (hop : o.op = Op.next it false) (b r n : Nat) (m : Ms) (vis : List Ed) (hit : a.eval it = .pointer (some ⟨r, 0, none⟩)) (h : RangeE w b r n m vis)
    (hDone : (∀ e, (m e).isSome = true → e ∈ vis) → wpListIn F k Tryz.prog ops Q rest (a.put o.dst (.tuple #[.bool false])) w)
    (hMore : ∀ (e : Ed) (c : Pt) (w' : World), m e = some c → CdE e → e ∉ vis → RangeE w' b r n m (vis ++ [e]) → w'.rangeLeft b r < w.rangeLeft b r → w.grownBy w' (some r) → w'.heap.size = w.heap.size → (Instr.entry (.pointer (some ⟨r, 0, none⟩))).run Tryz.prog w' = .ok (.tuple #[.agg #[.int .i64 e.1.1, .int .i64 e.1.2, .int .i64 e.2.1, .int .i64 e.2.2], .agg #[.int .i64 c.1, .int .i64 c.2]]) w' →
      wpListIn F k Tryz.prog ops Q rest (a.put o.dst (.tuple #[.bool true, .agg #[.int .i64 e.1.1, .int .i64 e.1.2, .int .i64 e.2.1, .int .i64 e.2.2], .agg #[.int .i64 c.1, .int .i64 c.2]])) w') : wpListIn F k Tryz.prog ops Q (o :: rest) a w := by
  refine wpListIn_plain hg fun K' hK' => ?_
  unfold Oper.wpIn
  refine ⟨by simp [Oper.about, hop], ?_⟩
  rw [Oper.semAt_plain F _ _ (by rw [hop]; intro c hc'; cases hc')]
  rcases h.next o.type with ⟨h0, hr⟩ | ⟨e, c, w', h1, h2, h3, hr, h4, h5, h6, h7, h8⟩
  · simp [execOp, hop, hit, hr, Result.andThen]
    exact hK' _ _ (hDone h0)
  · simp [execOp, hop, hit, hr, Result.andThen]
    exact hK' _ _ (hMore e c w' h1 h2 h3 h4 h5 h6 h7 h8)
end

theorem RangeE.walk {w : World} {b r n : Nat} {m : Ms} {vis : List Ed} (h : RangeE w b r n m vis) : ∃ o : Obj, w.heap[r]? = some o ∧ o.isWalk = true := by
  obtain ⟨D, left, cnt, h1, _⟩ := h
  exact h1.iter_walk
theorem RangeE.walks {w w' : World} {b r n : Nat} {m : Ms} {vis : List Ed} (h : RangeE w b r n m vis) (hk : KeepsWalks w w') : RangeE w' b r n m vis ∧ w'.rangeLeft b r = w.rangeLeft b r := by
  obtain ⟨D, left, cnt, h1, h2⟩ := h
  have k := h1.of_walks hk
  exact ⟨⟨D, left, cnt, k, h2⟩, by rw [k.left_eq, h1.left_eq]⟩

set_option maxHeartbeats 2000000 in
/-- The iterator over a map's sides: they come, each once. -/
theorem keysE_in (rm : Nat) (hrm : 1 ≤ rm) (l Bm b n : Nat) (m : Ms) (PS : List Ed) (hPS : ∀ e, (m e).isSome = true → e ∈ PS) (J : List Ed → World → Prop)
    (hY : ∀ pre x W, J pre W → pre.length < PS.length → YieldAt Fence.wide (rm - 1) Tryz.prog l #[edV x] W fun e W' => e = .returned (.bool true) ∧ J (pre ++ [x]) W' ∧ KeepsWalks W W')
    (W : World) (hJ : AbidesFrom W.heap.size J) (hm : W.cell? ⟨Bm, 0, none⟩ = some (.map (some b))) (hown : MapE W b n m) (h0 : J [] W) :
    CallsIn Fence.wide rm Tryz.prog 70 #[.func (.yield l) #[] #[], .pointer (some ⟨Bm, 0, none⟩)] W fun e W' => (∃ v, e = .returned v) ∧ ∃ L : List Ed, L.Nodup ∧ (∀ e, e ∈ L ↔ (m e).isSome = true) ∧ J L W' := by
  refine callsIn_of_wp Tryz.func70 rfl trivial ?_ rfl
  simp only [Tryz.ntmps70, List.size_toArray, List.length_cons, List.length_nil, Nat.reduceAdd, Nat.reduceSub, Array.replicate_succ, Array.replicate_zero, List.push_toArray, List.append_toArray, List.nil_append, List.cons_append]
  gi_wp2_with (first
    | (gi_at_range; refine wpListIn_rangeE _ rfl _ rfl b n m rfl hown ?_; intro w0 hrg0 hg0 hs0)
    | gi_in)
  go_frame
  gi_loopw [3] (fun _ wr => ∃ vis : List Ed, RangeE wr b W.heap.size n m vis ∧ J vis wr) (fun _ wr => wr.rangeLeft b W.heap.size)
  case atStart => exact ⟨[], hrg0, hJ [] W w0 none h0 hg0 (fun r e => by cases e)⟩
  case round =>
    obtain ⟨vis, hrg, hJs⟩ := hrel
    gi_wp2_with (first
      | (gi_at_next; refine wpListIn_nextE _ rfl _ rfl b W.heap.size n m vis rfl hrg ?_ ?_)
      | gi_in)
    · intro hall
      gi_wp2
      go_end0
      exact ⟨⟨_, rfl⟩, vis, hrg.nodup.1, fun e => ⟨hrg.nodup.2 e, fun k => hall e.1.1 e.1.2 e.2.1 e.2.2 k⟩, hJs⟩
    · intro ex ey fx fy cx cy w2 hmc he hnv hrg2 hlt hg2 hs2 hen
      have hJ2 : J vis w2 := hJ vis wr w2 (some W.heap.size) hJs hg2 (fun r e => by cases e; exact ⟨Nat.le_refl _, hrg.walk⟩)
      have hJ3 : J vis (w2.alloc (.cells #[.int .i64 ex, .int .i64 ey, .int .i64 fx, .int .i64 fy] 65)) := hJ vis w2 _ none hJ2 (World.grownBy_alloc _ _ _) (fun r e => by cases e)
      have hlen : vis.length < PS.length := by
        have := length_le_of_sub (l₁ := vis ++ [((ex, ey), (fx, fy))]) (l₂ := PS) hrg2.nodup.1 (fun e he => hPS e (hrg2.nodup.2 e he))
        simp at this
        omega
      obtain ⟨fn, tmps, assign, body, hy, hR⟩ := hY vis ((ex, ey), (fx, fy)) _ hJ3 hlen
      have hrg3 := (hrg2.kept (World.grownBy_alloc w2 (.cells #[.int .i64 ex, .int .i64 ey, .int .i64 fx, .int .i64 fy] 65) none) (by simp) (by simp))
      have hy' : (Instr.yield l #[.agg #[.int .i64 ex, .int .i64 ey, .int .i64 fx, .int .i64 fy]]).run Tryz.prog (w2.alloc (.cells #[.int .i64 ex, .int .i64 ey, .int .i64 fx, .int .i64 fy] 65)) = .ok (.round l fn tmps assign body) (w2.alloc (.cells #[.int .i64 ex, .int .i64 ey, .int .i64 fx, .int .i64 fy] 65)) := hy
      clear hs2 hy
      gi_wp2
      refine hR.mono ?_
      rintro e W3 ⟨rfl, hJ4, hk4⟩
      gi_wp2
      obtain ⟨r4, r5⟩ := hrg3.1.walks hk4
      go_roundw
      case rel => exact ⟨_, r4, hJ4⟩
      case measure => rw [r5, hrg3.2]; exact hlt

end Go.Proofs.YtgeoffpcmkofkaaGreat
