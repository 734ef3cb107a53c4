/- The one that starts them: it takes what one of them sends. -/
import Derived.Test.YtgeoffpcmkofkaaLg
namespace Go.Proofs.Ytgeoffpcmkofkaa
open Go Go.Conc Go.RowKit
set_option maxRecDepth 100000

/-- Old memory is as it was; what is written is new. -/
structure M0 (N : Nat) (ws : World) (O : Nat → Prop) (w : World) : Prop where
  above : ∀ r, O r → N ≤ r
  old : ∀ r, r < N → w.heap[r]? = ws.heap[r]?
  size : N ≤ w.heap.size
  os : w.os = ws.os
  output : w.output = ws.output
theorem M0.step {N : Nat} {ws w w2 w1 : World} {O : Nat → Prop} (h : M0 N ws O w) (k : Keeps O (· < N) w w2) (d : DidO O w2 w1) : M0 N ws (own O w2 w1) w1 := by
  have hs := Nat.le_trans h.size k.size
  refine ⟨fun r hr => ?_, fun r hr => ?_, Nat.le_trans hs d.size, d.os.trans (k.os.trans h.os), d.output.trans (k.output.trans h.output)⟩
  · rcases hr with hr | hr
    · exact h.above r hr
    · omega
  · rw [d.kept r (by omega) fun ho => by have := h.above r ho; omega, k.block r (.inr hr)]
    exact h.old r hr
theorem M0.keeps {N : Nat} {ws w w2 : World} {O : Nat → Prop} (h : M0 N ws O w) (k : Keeps O (· < N) w w2) : M0 N ws O w2 := by
  have := h.step k (.refl _ _)
  rwa [own_same rfl] at this
def IsI (v : Value) : Prop := ∃ n, v = .int .i64 n
theorem AllRow.of {Ip : Value → Prop} {w w1 : World} {v : Value} (h : AllRow Ip w v) (k : ∀ g, v.ownBlock = some g → w1.heap[g]? = w.heap[g]?) : AllRow Ip w1 v := fun g hg c e f hc => h g hg c e f (by rw [← k g hg]; exact hc)
def chV (c : Nat) : Value := .chan (some c)
/-- .. and two rows of its own: channels, points. -/
structure M1 (N : Nat) (ws : World) (O : Nat → Prop) (w : World) (pv : Value) (cl : List Nat) (av : Value) (acc : Pts) : Prop where
  m0 : M0 N ws O w
  p : w.ownsRow N 108 1 pv cl.length (cl.map chV)
  po : ∀ g, pv.ownBlock = some g → O g
  a : w.ownsRow N 23 2 av acc.length (flatP acc)
  ao : ∀ g, av.ownBlock = some g → O g
  ne : ∀ g, pv.ownBlock = some g → av.ownBlock ≠ some g
  ai : AllRow IsI w av
section
variable {N : Nat} {ws w w2 w1 : World} {O : Nat → Prop} {pv av : Value} {cl : List Nat} {acc : Pts}
theorem row_lt {e size n : Nat} {v : Value} {xs : List Value} (h : w.ownsRow N e size v n xs) {g : Nat} (hg : v.ownBlock = some g) : g < w.heap.size := by
  rcases h.2 with ⟨rfl, _⟩ | ⟨g', cap, cur, rfl, _, h3, _⟩
  · cases hg
  · injection hg with hg
    simp only at hg
    rw [← hg]
    exact (Array.getElem?_eq_some_iff.1 h3).1
theorem row_of {e size n : Nat} {v : Value} {xs : List Value} (h : w.ownsRow N e size v n xs) (k : ∀ g, v.ownBlock = some g → w1.heap[g]? = w.heap[g]?) : w1.ownsRow N e size v n xs := by
  refine ⟨h.1, h.2.imp id fun ⟨g, cap, cur, h1, h2, h3, h4⟩ => ⟨g, cap, cur, h1, h2, ?_, h4⟩⟩
  rw [k g (by rw [h1]; rfl)]
  exact h3
theorem M1.keeps (h : M1 N ws O w pv cl av acc) (k : Keeps O (· < N) w w2) : M1 N ws O w2 pv cl av acc :=
  ⟨h.m0.keeps k, owns_keeps h.p h.po k, h.po, owns_keeps h.a h.ao k, h.ao, h.ne, h.ai.of fun g hg => k.block g (.inl (h.ao g hg))⟩
theorem M1.alloc (h : M1 N ws O w pv cl av acc) (ob : Obj) : M1 N ws (own O w (w.alloc ob)) (w.alloc ob) pv cl av acc :=
  ⟨h.m0.step (.refl _ _ _) (did_alloc ob), row_of h.p fun _ hg => alloc_ne ob (row_lt h.p hg), fun g hg => .inl (h.po g hg), row_of h.a fun _ hg => alloc_ne ob (row_lt h.a hg), fun g hg => .inl (h.ao g hg), h.ne, h.ai.of fun _ hg => alloc_ne ob (row_lt h.a hg)⟩
/-- Others are written. -/
theorem M1.other (h : M1 N ws O w pv cl av acc) (d : DidO O w w1) (hs : w1.heap.size = w.heap.size) (hp : ∀ g, pv.ownBlock = some g → w1.heap[g]? = w.heap[g]?) (ha : ∀ g, av.ownBlock = some g → w1.heap[g]? = w.heap[g]?) : M1 N ws O w1 pv cl av acc := by
  have := h.m0.step (.refl _ _ _) d
  rw [own_same hs] at this
  exact ⟨this, row_of h.p hp, h.po, row_of h.a ha, h.ao, h.ne, h.ai.of ha⟩
end
theorem Try.info23' : ∃ i, Try.prog.info? 23 = some i ∧ i.zero = some (.agg #[.int .i64 0, .int .i64 0]) ∧ i.size = 2 ∧ i.bytes = 16 := by
  obtain ⟨i0, h0, h1, h2, h3⟩ := info_parts Try.info23
  exact ⟨i0, h0, h1, h2, h3⟩
noncomputable def body71c : Code := match Try.f71.body with
  | some (.seq _ (.seq _ (.seq _ (.seq _ (.seq (.seq _ (.block _ (.loop (.seq _ (.seq _ (.seq (.block _ (.seq _ (.seq _ (.block _ (.loop b))))) _)))))) _))))) => b
  | _ => .skip
set_option maxHeartbeats 1000000 in
/-- What one of them sends is taken, one by one, till its channel is closed. -/
theorem take71 {N : Nat} {ws : World} {Fin : Goroutine → World → Prop} {cs : List Frame} {c : Nat} {pv : Value} {cl : List Nat} {nn jj : Int} {k : List Item} {x0 x1 x4 x5 x6 x8 x9 x11 x12 x13 x14 x15 x16 x17 x18 x19 x20 x21 x22 x23 x24 x25 x29 x30 x31 x40 x41 : Value} : ∀ (rem acc : Pts), acc.length + rem.length ≤ 100000 → ∀ (O : Nat → Prop) (w : World) (E : Nat → Option (List Value)) (av x10 x33 x34 x35 x36 x37 x38 x39 : Value), M1 N ws O w pv cl av acc → E c = some (rem.map ptV) →
    (∀ (O : Nat → Prop) (w : World) (E' : Nat → Option (List Value)) (av x10 x33 x34 x35 x36 x37 x38 x39 : Value), M1 N ws O w pv cl av (acc ++ rem) → E' c = none → (∀ d, d ≠ c → E' d = E d) →
      MB Try.prog (· < N) Fin E' none O (G ((base 71).at { tmps := #[x0, x1, .slice none 0 0, pv, x4, x5, x6, av, x8, x9, x10, x11, x12, x13, x14, x15, x16, x17, x18, x19, x20, x21, x22, x23, x24, x25, pv, .int .i64 nn, .int .i64 jj, x29, x30, x31, .chan (some c), x33, x34, x35, x36, x37, x38, x39, x40, x41], defers := [] } k) cs) w) →
    MB Try.prog (· < N) Fin E none O (G ((base 71).at { tmps := #[x0, x1, .slice none 0 0, pv, x4, x5, x6, av, x8, x9, x10, x11, x12, x13, x14, x15, x16, x17, x18, x19, x20, x21, x22, x23, x24, x25, pv, .int .i64 nn, .int .i64 jj, x29, x30, x31, .chan (some c), x33, x34, x35, x36, x37, x38, x39, x40, x41], defers := [] } (.code body71c :: .inLoop body71c :: .inBlock 4 :: k)) cs) w := by
  intro rem
  induction rem with
  | nil =>
    intro acc hlen O w E av x10 x33 x34 x35 x36 x37 x38 x39 hM hE cont
    simp only [body71c, Try.f71]
    refine .ctl rfl rfl (fun _ => stepG_seq) ?_
    refine .ctl rfl rfl (fun _ => stepG_region) ?_
    walk_nrm
    simp only [show List.range 2 = [0, 1] from rfl]
    refine .last (c := c) (z := .agg #[.int .i64 0, .int .i64 0]) rfl (fun w2 _ => ?_) hE ?_
    · rw [stepG_comm (cases := #[rcase c (.agg #[.int .i64 0, .int .i64 0])]) (blocking := true) (shape := .recv true) (w' := w2) rfl rfl (by decide) (by simp [go_sem, rcase])]
      simp [listed, go_sem, seen_none]
    unfold Conc.served
    simp only [G]
    rw [Frame.finish_at]
    simp only [recvd, if_true]
    walk_nrm
    refine .val (.bool false) rfl rfl (by decide) (fun w2 _ => by go_simp) (fun w2 _ => by simp [go_sem]) ?_
    walk_nrm
    refine .ctl rfl rfl (fun _ => stepG_region_end) ?_
    refine .ctl rfl rfl (fun _ => stepG_seq) ?_
    refine .ctl rfl rfl (fun _ => stepG_cond (t := false) rfl) ?_
    refine .ctl rfl rfl (fun _ => stepG_exit (k' := k) rfl) ?_
    exact cont O w (put E c none) av _ _ _ _ _ _ _ _ (by rw [List.append_nil]; exact hM) (put_same _ _ _) fun d hd => put_ne _ _ hd
  | cons p rem ih =>
    intro acc hlen O w E av x10 x33 x34 x35 x36 x37 x38 x39 hM hE cont
    simp only [body71c, Try.f71]
    refine .ctl rfl rfl (fun _ => stepG_seq) ?_
    refine .ctl rfl rfl (fun _ => stepG_region) ?_
    walk_nrm
    simp only [show List.range 2 = [0, 1] from rfl]
    refine .recv (c := c) (v := .agg #[.int .i64 p.1, .int .i64 p.2]) (z := .agg #[.int .i64 0, .int .i64 0]) (outs := rem.map ptV) rfl (fun w2 _ => ?_) hE ?_
    · rw [stepG_comm (cases := #[rcase c (.agg #[.int .i64 0, .int .i64 0])]) (blocking := true) (shape := .recv true) (w' := w2) rfl rfl (by decide) (by simp [go_sem, rcase])]
      simp [listed, go_sem, seen_none]
    unfold Conc.served
    simp only [G]
    rw [Frame.finish_at]
    simp only [recvd, if_true]
    walk_nrm
    refine .val (.bool true) rfl rfl (by decide) (fun w2 _ => by go_simp) (fun w2 _ => by simp [go_sem]) ?_
    walk_nrm
    refine .ctl rfl rfl (fun _ => stepG_region_end) ?_
    refine .ctl rfl rfl (fun _ => stepG_seq) ?_
    refine .ctl rfl rfl (fun _ => stepG_cond (t := true) rfl) ?_
    refine .ctl rfl rfl (fun _ => stepG_skip) ?_
    refine .ctl rfl rfl (fun _ => stepG_block) ?_
    refine .ctl rfl rfl (fun _ => stepG_seq) ?_
    refine .ctl rfl rfl (fun _ => stepG_region) ?_
    walk_nrm
    refine .val (.agg #[.int .i64 p.1, .int .i64 p.2]) rfl rfl (by decide) (fun w2 _ => by go_simp) (fun w2 _ => by simp [go_sem]) ?_
    walk_nrm
    refine .newB (.cells #[.int .i64 0, .int .i64 0] 23) (fun n => .pointer (some ⟨n, 0, none⟩)) rfl rfl (by decide) (fun w2 _ => by go_simp) (fun w2 _ => by simp [go_sem]) fun w2 k2 => ?_
    walk_nrm
    have hMk := hM.keeps k2
    replace hM := hMk.alloc (.cells #[.int .i64 0, .int .i64 0] 23)
    obtain ⟨n, hn⟩ : ∃ n, w2.heap.size = n := ⟨_, rfl⟩
    have hO1 : own O w2 (w2.alloc (.cells #[.int .i64 0, .int .i64 0] 23)) n := .inr ⟨by omega, by rw [alloc_heap, Array.size_push]; omega⟩
    have hcell : (w2.alloc (.cells #[.int .i64 0, .int .i64 0] 23)).heap[n]? = some (.cells #[.int .i64 0, .int .i64 0] 23 (0, 0)) := by
      rw [alloc_heap, ← hn]
      exact Array.getElem?_push_size
    have hnp : ∀ g, pv.ownBlock = some g → g ≠ n := fun g hg => by have := row_lt hMk.p hg; omega
    have hna : ∀ g, av.ownBlock = some g → g ≠ n := fun g hg => by have := row_lt hMk.a hg; omega
    rw [hn]
    generalize own O w2 (w2.alloc (.cells #[.int .i64 0, .int .i64 0] 23)) = O1 at hO1 hM ⊢
    generalize w2.alloc (.cells #[.int .i64 0, .int .i64 0] 23) = w3 at hcell hM ⊢
    refine .go1 rfl fun w4 k4 => ⟨_, (w4.setCell ⟨n, 0, none⟩ (.int .i64 p.1)).setCell ⟨n, 1, none⟩ (.int .i64 p.2), _, stepG_none rfl rfl (by decide) ?_, rfl, ?_, fun e he => ?_, ?_⟩
    · have h4 := k4.block n (.inl hO1)
      rw [hcell] at h4
      obtain ⟨⟨q1, q2⟩, ⟨q3, q4⟩, _⟩ := two_cells (u := .int .i64 p.1) h4
      go_simp
    · exact (did_setc _ _ hO1).trans (did_setc _ _ hO1)
    · have h4 := k4.block n (.inl hO1)
      rw [hcell] at h4
      obtain ⟨⟨q1, q2⟩, ⟨q3, q4⟩, _⟩ := two_cells (u := .int .i64 p.1) h4
      have := mem_listed he
      simp [go_sem, storedEv, q1, q2, q3, q4] at this
      rw [own_same (by rw [set_size, set_size])]
      rcases this with rfl | rfl
      · exact .inl ⟨_, rfl, .inl hO1⟩
      · exact .inl ⟨_, rfl, .inl hO1⟩
    rw [own_same (by rw [set_size, set_size])]
    have h4 := k4.block n (.inl hO1)
    rw [hcell] at h4
    have hcell5 := (two_cells (u := .int .i64 p.1) h4).2.2 (.int .i64 p.2)
    replace hM := (hM.keeps k4).other (w1 := (w4.setCell ⟨n, 0, none⟩ (.int .i64 p.1)).setCell ⟨n, 1, none⟩ (.int .i64 p.2)) ((did_setc _ _ hO1).trans (did_setc _ _ hO1)) (by rw [set_size, set_size]) (fun g hg => by rw [Below.heap_setCell _ _ _ _ (hnp g hg), Below.heap_setCell _ _ _ _ (hnp g hg)]) (fun g hg => by rw [Below.heap_setCell _ _ _ _ (hna g hg), Below.heap_setCell _ _ _ _ (hna g hg)])
    generalize (w4.setCell ⟨n, 0, none⟩ (.int .i64 p.1)).setCell ⟨n, 1, none⟩ (.int .i64 p.2) = w5 at hcell5 hM ⊢
    walk_nrm
    refine .ctl rfl rfl (fun _ => stepG_region_end) ?_
    refine .ctl rfl rfl (fun _ => stepG_region) ?_
    walk_nrm
    refine .mov av rfl rfl (.inl rfl) rfl (by decide) ?_
    walk_nrm
    refine .val (.agg #[.int .i64 p.1, .int .i64 p.2]) rfl rfl (by decide) (fun w2 k2 => ?_) (fun w2 k2 => ?_) ?_
    · have h6 := k2.block n (.inl hO1)
      rw [hcell5] at h6
      have h1 : w2.cell? ⟨n, 0, none⟩ = some (.int .i64 p.1) := by simp [World.cell?, h6]
      have h2 : w2.cell? ⟨n, 1, none⟩ = some (.int .i64 p.2) := by simp [World.cell?, h6]
      go_simp
    · have h6 := k2.block n (.inl hO1)
      rw [hcell5] at h6
      have h1 : w2.cell? ⟨n, 0, none⟩ = some (.int .i64 p.1) := by simp [World.cell?, h6]
      have h2 : w2.cell? ⟨n, 1, none⟩ = some (.int .i64 p.2) := by simp [World.cell?, h6]
      intro e he
      simp [go_sem, h1, h2] at he
      rcases he with rfl | rfl
      · exact .inl ⟨_, rfl, .inl hO1⟩
      · exact .inl ⟨_, rfl, .inl hO1⟩
    walk_nrm
    refine .newB (.cells #[.int .i64 p.1, .int .i64 p.2] 23) (fun n => .slice (some ⟨n, 0, none⟩) 1 1) rfl rfl (by decide) (fun w2 _ => by go_simp) (fun w2 _ => by simp [go_sem]) fun w6 k6 => ?_
    walk_nrm
    replace hM := (hM.keeps k6).alloc (.cells #[.int .i64 p.1, .int .i64 p.2] 23)
    obtain ⟨n', hn'⟩ : ∃ n, w6.heap.size = n := ⟨_, rfl⟩
    have hO6 : own O1 w6 (w6.alloc (.cells #[.int .i64 p.1, .int .i64 p.2] 23)) n' := .inr ⟨by omega, by rw [alloc_heap, Array.size_push]; omega⟩
    have hcell6 : (w6.alloc (.cells #[.int .i64 p.1, .int .i64 p.2] 23)).heap[n']? = some (.cells #[.int .i64 p.1, .int .i64 p.2] 23 (0, 0)) := by
      rw [alloc_heap, ← hn']
      exact Array.getElem?_push_size
    rw [hn']
    generalize own O1 w6 (w6.alloc (.cells #[.int .i64 p.1, .int .i64 p.2] 23)) = O6 at hO6 hM ⊢
    generalize w6.alloc (.cells #[.int .i64 p.1, .int .i64 p.2] 23) = w7 at hcell6 hM ⊢
    obtain ⟨i0, hi0, hz0, hz1, hz2⟩ := Try.info23'
    refine .app (N := N) (news := [.int .i64 p.1, .int .i64 p.2]) (.tmp 36) (.tmp 38) rfl rfl (by decide) rfl rfl rfl Try.underlying28 hi0 hz0 hz1 hz2 rfl (by omega) hM.a hM.ao hO6 rfl ?_ ?_ ?_ ?_ hM.m0.size (by omega) hM.ai ?_ ?_ fun w8 v' w9 k8 r1 r2 r3 r4 r5 r6 => ?_
    · intro j u hj
      match j, hj with
      | 0, hj => simp at hj; subst hj; simp [World.cell?, Addr.add_lit, hcell6]
      | 1, hj => simp at hj; subst hj; simp [World.cell?, Addr.add_lit, hcell6]
      | j + 2, hj => simp at hj
    · intro u hu
      simp at hu
      rcases hu with rfl | rfl <;> rfl
    · simp at hlen; simp only [maxLen]; omega
    · simp at hlen; omega
    · intro x hx
      simp [Value.cells] at hx
      exact ⟨0, hx⟩
    · intro x hx
      simp at hx
      rcases hx with rfl | rfl
      · exact ⟨_, rfl⟩
      · exact ⟨_, rfl⟩
    walk_nrm
    have hM9 : M1 N ws (own O6 w8 w9) w9 pv cl v' (acc ++ [p]) := by
      have hp8 := owns_keeps hM.p hM.po k8
      refine ⟨hM.m0.step k8 r3, row_of hp8 fun g hg => r4.block g (row_lt hp8 hg) fun e => hM.ne g hg e.symm, fun g hg => .inl (hM.po g hg), ?_, r2, (fun g hg e => ?_), r6⟩
      · rw [List.length_append, flatP_append]
        exact r1
      · rcases r5 with r5 | r5
        · rw [r5] at e; exact hM.ne g hg e
        · rw [r5] at e
          injection e with e
          have := row_lt hp8 hg
          omega
    refine .mov v' rfl rfl (.inr rfl) rfl (by decide) ?_
    walk_nrm
    refine .ctl rfl rfl (fun _ => stepG_region_end) ?_
    refine .ctl rfl rfl (fun _ => stepG_inBlock) ?_
    refine .ctl rfl rfl (fun _ => stepG_inLoop) ?_
    exact ih (acc ++ [p]) (by simp at hlen ⊢; omega) _ w9 (put E c (some (rem.map ptV))) v' _ _ _ _ _ _ _ _ hM9 (put_same _ _ _) fun O w E' av x10 x33 x34 x35 x36 x37 x38 x39 q1 q2 q3 => cont O w E' av x10 x33 x34 x35 x36 x37 x38 x39 (by simpa using q1) q2 fun d hd => by rw [q3 d hd, put_ne _ _ hd]
end Go.Proofs.Ytgeoffpcmkofkaa
