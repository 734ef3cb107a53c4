/- Lj; Mi; Mj; Qi; Hb; Hc; Hd; He; Hf; Hg; Hh; Hi: texts laid into one. -/
import Derived.Test.YtgeoffpcmkofkaaQaq
import Derived.Test.YtgeoffpcmkofkaaQap
import Derived.Test.YtgeoffpcmkofkaaQag
import Derived.Test.YtgeoffpcmkofkaaQaf
/- The one that starts them: it starts them. -/
namespace Go.Proofs.Ytgeoffpcmkofkaa
open Go Go.Conc Go.RowKit
set_option maxRecDepth 100000

noncomputable def body71a : Code := match Try.f71.body with
  | some (.seq _ (.seq _ (.seq (.seq _ (.block _ (.loop b))) _))) => b
  | _ => .skip
noncomputable def rest71 : Code := match Try.f71.body with
  | some (.seq _ (.seq _ (.seq _ t))) => t
  | _ => .skip
theorem Try.info108 : (Try.prog.info? 108).map (fun i => (i.zero, i.size, i.bytes)) = some (some (.chan none), 1, 8) := by kernel_rfl
section
variable {P : Program} {S : Nat → Prop} {O : Nat → Prop} {w : World} {b : Frame} {a : Act} {ops : Array Oper} {i : Nat} {rest : List Nat} {o : Oper} {k : List Item} {cs : List Frame} {Fin : Goroutine → World → Prop} {E : Nat → Option (List Value)}
/-- A channel is made. -/
theorem MB.chn (ho : ops[i]? = some o) (hw : Region.wanted o (yielded ops a.tmps) = true) (hk : b.kind ≠ .early) (hr : ∀ w2, (execOp a.eval o).run P w2 = .ok (.value (.chan (some w2.heap.size))) (w2.alloc (.chan 0 #[] false 0 0 false))) (he : ∀ w2, (execOp a.eval o).events P w2 #[] = #[])
    (h : ∀ w2, Keeps O S w w2 → MB P S Fin E (some w2.heap.size) O (G (b.at (a.put o.dst (.chan (some w2.heap.size))) (.inRegion ops rest :: k)) cs) (w2.alloc (.chan 0 #[] false 0 0 false))) : MB P S Fin E none O (G (b.at a (.inRegion ops (i :: rest) :: k)) cs) w := by
  have key : ∀ w2, stepG P true (G (b.at a (.inRegion ops (i :: rest) :: k)) cs) w2 = .go (G (b.at (a.put o.dst (.chan (some w2.heap.size))) (.inRegion ops rest :: k)) cs) (w2.alloc (.chan 0 #[] false 0 0 false)) #[] := by
    intro w2
    rw [stepG_value ho hw hk (hr w2)]
    unfold listed
    rw [he w2, seen_none]
  refine .make (tm := false) rfl (fun w2 _ => ⟨_, key w2, rfl⟩) fun w2 a1 w1 es k2 hs => ?_
  rw [key w2] at hs
  injection hs with e1 e2 _
  subst e1 e2
  exact h w2 k2
/-- One is started. -/
theorem MB.spw {d : Deferred} {c : Nat} {outs : List Value} {f : Fn} {cc : Array Value} (ho : ops[i]? = some o) (hw : Region.wanted o (yielded ops a.tmps) = true) (hk : b.kind ≠ .early) (hr : ∀ w2, (execOp a.eval o).run P w2 = .ok (.spawn d) w2) (he : ∀ w2, (execOp a.eval o).events P w2 #[] = #[]) (hd : d.target = .fn f cc)
    (hkid : ∀ w2, Keeps O S w w2 → KT P S c outs (fun _ => False) (born P d) w2) (h : MB P S Fin (put E c (some outs)) none O (G (b.at (a.put o.dst undef) (.inRegion ops rest :: k)) cs) w) : MB P S Fin E (some c) O (G (b.at a (.inRegion ops (i :: rest) :: k)) cs) w := by
  refine .spawn (a1 := G (b.at (a.put o.dst undef) (.inRegion ops rest :: k)) cs) rfl rfl (fun w2 _ => ?_) hkid h
  rw [stepG_spawn ho hw hk (hr w2) hd]
  unfold listed
  rw [he w2, seen_none]
end
theorem M1.same {N : Nat} {ws w : World} {O : Nat → Prop} {pv av : Value} {cl : List Nat} {acc : Pts} (h : M1 N ws O w pv cl av acc) (ob : Obj) : M1 N ws O (w.alloc ob) pv cl av acc := by
  have := h.alloc ob
  exact ⟨⟨h.m0.above, this.m0.old, this.m0.size, this.m0.os, this.m0.output⟩, this.p, h.po, this.a, h.ao, h.ne, this.ai⟩
set_option maxHeartbeats 1000000 in
theorem start71 {N : Nat} {ws : World} {Fin : Goroutine → World → Prop} {cs : List Frame} {pcv : Value} {outs : Nat → Pts} {parts : Nat → Value} {x0 x1 x4 x7 x8 x9 x10 x11 x26 x27 x28 x29 x30 x31 x32 x33 x34 x35 x36 x37 x38 x39 x40 x41 : Value} {m : Nat} (hm : m ≤ 1000) (hlen : (cat outs m).length ≤ 10000)
    (hpc : 0 < m → ∃ pc cap, pcv = .slice (some ⟨pc, 0, none⟩) m cap ∧ pc < N ∧ ∀ i, i < m → ws.cell? ⟨pc, i, none⟩ = some (parts i)) (hsl : ∀ i, i < m → ∃ x l c, parts i = .slice x l c)
    (hkid : ∀ i, i < m → ∀ c w2, (∀ r, r < N → w2.heap[r]? = ws.heap[r]?) → N ≤ w2.heap.size → KT Try.prog (· < N) c ((outs i).map ptV) (fun _ => False) (born Try.prog (dcall 91 #[parts i, .chan (some c)])) w2)
    (hFin : ∀ (O : Nat → Prop) (w : World) (pv : Value) (cl : List Nat) (av : Value) (tmps : Array Value) (todo : List Item), M1 N ws O w pv cl av (cat outs m) → tmps.getD 2 undef = av → Fin (G { (base 71).at { tmps := tmps, defers := [] } todo with mode := .returning } cs) w) :
    ∀ (d j : Nat), j + d = m → ∀ (O : Nat → Prop) (w : World) (E : Nat → Option (List Value)) (cl : List Nat) (pv x5 x6 x15 x16 x17 x18 x19 x20 x21 x22 x23 x24 x25 : Value), cl.length = j → M1 N ws O w pv cl (.slice none 0 0) [] → ERs E cl outs 0 → (∀ (i c : Nat), cl[i]? = some c → c < w.heap.size) →
      MB Try.prog (· < N) Fin E none O (G ((base 71).at { tmps := #[x0, x1, .slice none 0 0, pv, x4, x5, x6, x7, x8, x9, x10, x11, pcv, .int .i64 (m : Nat), .int .i64 (j : Nat), x15, x16, x17, x18, x19, x20, x21, x22, x23, x24, x25, x26, x27, x28, x29, x30, x31, x32, x33, x34, x35, x36, x37, x38, x39, x40, x41], defers := [] } [.code body71a, .inLoop body71a, .inBlock 0, .code rest71]) cs) w := by
  intro d
  induction d with
  | zero =>
    intro j hj O w E cl pv x5 x6 x15 x16 x17 x18 x19 x20 x21 x22 x23 x24 x25 hcl hM hE hlow
    have hj : j = m := by omega
    subst hj
    simp only [body71a, Try.f71]
    refine .ctl rfl rfl (fun _ => stepG_seq) ?_
    refine .ctl rfl rfl (fun _ => stepG_region) ?_
    walk_nrm
    refine .val (.bool false) rfl rfl (by decide) (fun w2 _ => by go_simp) (fun w2 _ => by simp [go_sem]) ?_
    walk_nrm
    refine .ctl rfl rfl (fun _ => stepG_region_end) ?_
    refine .ctl rfl rfl (fun _ => stepG_seq) ?_
    refine .ctl rfl rfl (fun _ => stepG_cond (t := false) rfl) ?_
    refine .ctl rfl rfl (fun _ => stepG_exit (k' := [.code rest71]) rfl) ?_
    simp only [rest71, Try.f71]
    refine .ctl rfl rfl (fun _ => stepG_seq) ?_
    refine .ctl rfl rfl (fun _ => stepG_region) ?_
    walk_nrm
    refine .mov (.slice none 0 0) rfl rfl (.inr rfl) rfl (by decide) ?_
    walk_nrm
    refine .ctl rfl rfl (fun _ => stepG_region_end) ?_
    refine .ctl rfl rfl (fun _ => stepG_seq) ?_
    refine .ctl rfl rfl (fun _ => stepG_seq) ?_
    refine .ctl rfl rfl (fun _ => stepG_region) ?_
    walk_nrm
    refine .mov pv rfl rfl (.inl rfl) rfl (by decide) ?_
    walk_nrm
    have hpv : ∃ b cap, pv = .slice b j cap := by
      rcases hM.p.2 with ⟨e, e2⟩ | ⟨g, cap, cur, e1, _⟩
      · exact ⟨none, 0, by rw [e, ← hcl, e2]⟩
      · exact ⟨_, cap, by rw [e1, hcl]⟩
    refine .val (.int .i64 (j : Nat)) rfl rfl (by decide) (fun w2 _ => ?_) (fun w2 _ => ?_) ?_
    · obtain ⟨b, cap, rfl⟩ := hpv
      go_simp
    · obtain ⟨b, cap, rfl⟩ := hpv
      simp [go_sem]
    walk_nrm
    refine .mov (.int .i64 0) rfl rfl (.inl rfl) rfl (by decide) ?_
    walk_nrm
    refine .ctl rfl rfl (fun _ => stepG_region_end) ?_
    refine .ctl rfl rfl (fun _ => stepG_block) ?_
    refine .ctl rfl rfl (fun _ => stepG_loop) ?_
    exact all71 hm hcl hlen (fun O w av tmps todo h1 h2 => hFin O w pv cl av tmps todo h1 h2) j 0 (by omega) O w E _ _ _ _ _ _ _ _ _ _ _ _ _ _ _ hM hE
  | succ d ih =>
    intro j hj O w E cl pv x5 x6 x15 x16 x17 x18 x19 x20 x21 x22 x23 x24 x25 hcl hM hE hlow
    have hjm : j < m := by omega
    obtain ⟨pc, cap, rfl, hpcN, hcells⟩ := hpc (by omega)
    simp only [body71a, Try.f71]
    refine .ctl rfl rfl (fun _ => stepG_seq) ?_
    refine .ctl rfl rfl (fun _ => stepG_region) ?_
    walk_nrm
    refine .val (.bool true) rfl rfl (by decide) (fun w2 _ => by go_simp) (fun w2 _ => by simp [go_sem]) ?_
    walk_nrm
    refine .ctl rfl rfl (fun _ => stepG_region_end) ?_
    refine .ctl rfl rfl (fun _ => stepG_seq) ?_
    refine .ctl rfl rfl (fun _ => stepG_cond (t := true) rfl) ?_
    refine .ctl rfl rfl (fun _ => stepG_skip) ?_
    refine .ctl rfl rfl (fun _ => stepG_seq) ?_
    refine .ctl rfl rfl (fun _ => stepG_block) ?_
    refine .ctl rfl rfl (fun _ => stepG_seq) ?_
    refine .ctl rfl rfl (fun _ => stepG_region) ?_
    walk_nrm
    have hcell : w.cell? ⟨pc, j, none⟩ = some (parts j) := by
      rw [← hcells j hjm]
      unfold World.cell?
      rw [hM.m0.old pc hpcN]
    obtain ⟨sx, sl, sc, hsx⟩ := hsl j hjm
    refine .val (.pointer (some ⟨pc, j, none⟩)) rfl rfl (by decide) (fun w2 _ => by go_simp) (fun w2 _ => by simp [go_sem, events_indexAt_slice 106 _ _ _ _ _ elem106 (show (0 : Int) ≤ j ∧ (j : Int) < m by omega)]) ?_
    walk_nrm
    refine .val (parts j) rfl rfl (by decide) (fun w2 k2 => ?_) (fun w2 k2 => ?_) ?_
    · have h1 := k2.cell (ad := ⟨pc, j, none⟩) (.inr hpcN)
      rw [hcell] at h1
      rw [hsx] at h1 ⊢
      go_simp
    · have h1 := k2.cell (ad := ⟨pc, j, none⟩) (.inr hpcN)
      rw [hcell] at h1
      rw [hsx] at h1
      intro e he
      simp [go_sem, h1] at he
      subst he
      exact .inl ⟨_, rfl, .inr ⟨hpcN, rfl⟩⟩
    walk_nrm
    refine .mov (parts j) rfl rfl (.inr rfl) rfl (by decide) ?_
    walk_nrm
    refine .ctl rfl rfl (fun _ => stepG_region_end) ?_
    refine .ctl rfl rfl (fun _ => stepG_seq) ?_
    refine .ctl rfl rfl (fun _ => stepG_region) ?_
    walk_nrm
    obtain ⟨i23, hi23, hz23, hs23, hb23⟩ := Try.info23'
    refine .chn rfl rfl (by decide) (fun w2 => ?_) (fun w2 => ?_) fun w2 k2 => ?_
    · have : (Instr.makeChan 108 (.int .i64 0)).run Try.prog w2 = .ok (.chan (some w2.heap.size)) (w2.alloc (.chan 0 #[] false 0 0 false)) := run_makeChan (P := Try.prog) (w := w2) Try.underlying108 hi23 .i64 0 (by omega) (by rw [hb23]; omega)
      simp [go_sem, this]
    · have : (Instr.makeChan 108 (.int .i64 0)).events Try.prog w2 #[] = #[] := events_makeChan (P := Try.prog) (w := w2) Try.underlying108 hi23 .i64 0 (by omega) (by rw [hb23]; omega) #[]
      simp [go_sem, this]
    walk_nrm
    obtain ⟨c, hc⟩ : ∃ c, w2.heap.size = c := ⟨_, rfl⟩
    have hcnew : ∀ (i c' : Nat), cl[i]? = some c' → c' < c := fun i c' h => by have := hlow i c' h; have := k2.size; omega
    replace hM := (hM.keeps k2).same (.chan 0 #[] false 0 0 false)
    have hsz : c < (w2.alloc (.chan 0 #[] false 0 0 false)).heap.size := by rw [alloc_heap, Array.size_push]; omega
    rw [hc]
    generalize w2.alloc (.chan 0 #[] false 0 0 false) = w3 at hM hsz ⊢
    refine .mov (.chan (some c)) rfl rfl (.inr rfl) rfl (by decide) ?_
    walk_nrm
    refine .ctl rfl rfl (fun _ => stepG_region_end) ?_
    refine .ctl rfl rfl (fun _ => stepG_seq) ?_
    refine .ctl rfl rfl (fun _ => stepG_region) ?_
    walk_nrm
    refine .mov (parts j) rfl rfl (.inl rfl) rfl (by decide) ?_
    walk_nrm
    refine .mov (.chan (some c)) rfl rfl (.inl rfl) rfl (by decide) ?_
    walk_nrm
    refine .spw (d := dcall 91 #[parts j, .chan (some c)]) (outs := (outs j).map ptV) rfl rfl (by decide) (fun w4 => by simp [go_sem, dcall]) (fun w4 => by simp [go_sem]) rfl (fun w4 k4 => hkid j hjm c w4 (hM.m0.keeps k4).old (hM.m0.keeps k4).size) ?_
    walk_nrm
    refine .ctl rfl rfl (fun _ => stepG_region_end) ?_
    refine .ctl rfl rfl (fun _ => stepG_region) ?_
    walk_nrm
    refine .mov pv rfl rfl (.inl rfl) rfl (by decide) ?_
    walk_nrm
    refine .mov (.chan (some c)) rfl rfl (.inl rfl) rfl (by decide) ?_
    walk_nrm
    refine .newB (.cells #[.chan (some c)] 108) (fun n => .slice (some ⟨n, 0, none⟩) 1 1) rfl rfl (by decide) (fun w2 _ => by go_simp) (fun w2 _ => by simp [go_sem]) fun w6 k6 => ?_
    walk_nrm
    replace hM := (hM.keeps k6).alloc (.cells #[.chan (some c)] 108)
    obtain ⟨n', hn'⟩ : ∃ n, w6.heap.size = n := ⟨_, rfl⟩
    have hO6 : own O w6 (w6.alloc (.cells #[.chan (some c)] 108)) n' := .inr ⟨by omega, by rw [alloc_heap, Array.size_push]; omega⟩
    have hcell6 : (w6.alloc (.cells #[.chan (some c)] 108)).heap[n']? = some (.cells #[.chan (some c)] 108 (0, 0)) := by
      rw [alloc_heap, ← hn']
      exact Array.getElem?_push_size
    have hsz6 : c < (w6.alloc (.cells #[.chan (some c)] 108)).heap.size := by rw [alloc_heap, Array.size_push]; have := k6.size; omega
    rw [hn']
    generalize own O w6 (w6.alloc (.cells #[.chan (some c)] 108)) = O6 at hO6 hM ⊢
    generalize w6.alloc (.cells #[.chan (some c)] 108) = w7 at hcell6 hM hsz6 ⊢
    obtain ⟨i0, hi0, hz0, hz1, hz2⟩ := info_parts Try.info108
    refine .app (N := N) (news := [.chan (some c)]) (.tmp 21) (.tmp 23) rfl rfl (by decide) rfl rfl rfl Try.underlying105 hi0 hz0 hz1 hz2 rfl (by omega) hM.p hM.po hO6 rfl ?_ ?_ ?_ ?_ hM.m0.size (by omega) (Ip := fun _ => True) (fun _ _ _ _ _ _ _ _ => trivial) (fun _ _ => trivial) (fun _ _ => trivial) fun w8 v' w9 k8 r1 r2 r3 r4 r5 _ => ?_
    · intro i u hi
      match i, hi with
      | 0, hi => simp at hi; subst hi; simp [World.cell?, Addr.add_lit, hcell6]
      | i + 1, hi => simp at hi
    · intro u hu
      simp at hu
      subst hu
      rfl
    · simp only [maxLen]; omega
    · omega
    walk_nrm
    have hM9 : M1 N ws (own O6 w8 w9) w9 v' (cl ++ [c]) (.slice none 0 0) [] := by
      refine ⟨hM.m0.step k8 r3, ?_, r2, ⟨rfl, .inl ⟨rfl, rfl⟩⟩, (fun g hg => by cases hg), (fun g _ e => by cases e), (fun g hg => by cases hg)⟩
      rw [List.length_append, List.map_append]
      exact r1
    refine .mov v' rfl rfl (.inr rfl) rfl (by decide) ?_
    walk_nrm
    refine .ctl rfl rfl (fun _ => stepG_region_end) ?_
    refine .ctl rfl rfl (fun _ => stepG_inBlock) ?_
    refine .ctl rfl rfl (fun _ => stepG_region) ?_
    walk_nrm
    refine .val (.int .i64 ((j + 1 : Nat) : Int)) rfl rfl (by decide) (fun w2 _ => by go_simp; rw [IntKind.wrap_i64]; omega) (fun w2 _ => by simp [go_sem]) ?_
    walk_nrm
    refine .mov (.int .i64 ((j + 1 : Nat) : Int)) rfl rfl (.inl rfl) rfl (by decide) ?_
    walk_nrm
    refine .ctl rfl rfl (fun _ => stepG_region_end) ?_
    refine .ctl rfl rfl (fun _ => stepG_inLoop) ?_
    have hget : ∀ (i c' : Nat), (cl ++ [c])[i]? = some c' → cl[i]? = some c' ∨ (i = j ∧ c' = c) := by
      intro i c' h
      rcases Nat.lt_or_ge i cl.length with hi | hi
      · rw [List.getElem?_append_left hi] at h; exact .inl h
      · rw [List.getElem?_append_right hi] at h
        have : i - cl.length = 0 := by
          rcases Nat.eq_zero_or_pos (i - cl.length) with e | e
          · exact e
          · rw [List.getElem?_eq_none (by simp; omega)] at h; cases h
        rw [this] at h
        simp only [List.getElem?_cons_zero, Option.some.injEq] at h
        exact .inr ⟨by omega, h.symm⟩
    have hnew : (cl ++ [c])[j]? = some c := by rw [List.getElem?_append_right (by omega)]; simp [hcl]
    refine ih (j + 1) (by omega) _ w9 _ (cl ++ [c]) v' _ _ _ _ _ _ _ _ _ _ _ _ _ (by simp [hcl]) hM9 ⟨fun i d _ hd => ?_, fun d o hd => ?_, fun i i' d h1 h2 => ?_⟩ fun i d hd => ?_
    · rcases hget i d hd with h | ⟨rfl, rfl⟩
      · rw [put_ne _ _ (by have := hcnew i d h; omega)]
        exact hE.there i d (Nat.zero_le _) h
      · exact put_same _ _ _
    · by_cases e : d = c
      · exact ⟨j, Nat.zero_le _, by rw [e]; exact hnew⟩
      · rw [put_ne _ _ e] at hd
        obtain ⟨i, q1, q2⟩ := hE.only d o hd
        exact ⟨i, q1, by rw [List.getElem?_append_left (List.getElem?_eq_some_iff.1 q2).1]; exact q2⟩
    · rcases hget i d h1 with h | ⟨rfl, rfl⟩ <;> rcases hget i' d h2 with h' | ⟨rfl, h'⟩
      · exact hE.once i i' d h h'
      · have := hcnew i d h; omega
      · have := hcnew i' d h'; omega
      · rfl
    · have hsz9 : w7.heap.size ≤ w9.heap.size := Nat.le_trans k8.size r3.size
      rcases hget i d hd with h | ⟨_, rfl⟩
      · have := hcnew i d h; omega
      · omega
end Go.Proofs.Ytgeoffpcmkofkaa
/- Beside goroutines that only leave: operations, calls in which blocks are numbered anew, and the start of others. -/
namespace Go.Proofs.Ytgeoffpcmkofkaa
open Go Go.Conc

section
variable {P : Program} {Post : Value → World → Prop} {fr fr1 : Frame} {cs cs1 : List Frame} {w w1 : World}
theorem Same.keeps {O S : Nat → Prop} {w' : World} (h : Same w w') : Keeps O S w w' := ⟨by rw [h.heap]; exact Nat.le_refl _, fun r _ => by rw [h.heap], h.os, h.output⟩
theorem evP_of_evO {O S : Nat → Prop} {N : Nat} {e : Event} (h : EvO O S e) (hlow : ∀ r, O r ∨ S r → r < N) : EvP N e := by
  rcases h with ⟨a, rfl, hb⟩ | ⟨a, rfl, hb⟩ | ⟨m, rfl, hm⟩ | ⟨r, rfl, hb⟩
  · exact evP_cell _ _ _ (hlow _ hb)
  · exact evP_cell _ _ _ (hlow _ (.inl hb))
  · rcases hm with rfl | ⟨f, rfl⟩ <;> exact ⟨fun _ _ h => h.elim, by simp, by simp, trivial⟩
  · exact evP_obj _ _ _ (hlow _ (.inl hb))
/-- A call in which blocks are numbered anew. -/
theorem A.of_runs {S O : Nat → Prop} {base : List Frame} {FinR : (Nat → Prop) → Frame → World → Prop} (h : Runs P S base FinR O fr cs w) : (∀ r, O r ∨ S r → r < w.heap.size) →
    (∀ O' fr w', fr.mode = .returning → (∀ w2, Keeps O' S w' w2 → FinR O' fr w2) → (∀ r, O' r → O r ∨ w.heap.size ≤ r) → (∀ r, O' r ∨ S r → r < w'.heap.size) → w.heap.size ≤ w'.heap.size → w'.os = w.os → w'.output = w.output → (∀ r, r < w.heap.size → ¬O r → w'.heap[r]? = w.heap[r]?) → A P Post fr base w') → A P Post fr cs w := by
  induction h with
  | @done O fr w hm hfin => exact fun hlow hf => hf O fr w hm hfin (fun r hr => .inl hr) hlow (Nat.le_refl _) rfl rfl fun _ _ _ => rfl
  | @step O fr cs w h1 h2 ih =>
    intro hlow hf
    refine .one fun w' hs => ?_
    obtain ⟨fr1, cs1, w1, es, k1, k2, k3, k4⟩ := h1 w' hs.keeps
    have hsz : w'.heap.size = w.heap.size := by rw [hs.heap]
    have hlow1 : ∀ r, own O w' w1 r ∨ S r → r < w1.heap.size := by
      intro r hr
      rcases hr with (hr | hr) | hr
      · have := hlow r (.inl hr); have := k3.size; omega
      · exact hr.2
      · have := hlow r (.inr hr); have := k3.size; omega
    refine ⟨fr1, cs1, w1, es, k2 true .running none, fun e he => evP_of_evO (k4 e he) hlow1, k3.size, ?_⟩
    refine ih w' fr1 cs1 w1 es hs.keeps k1 hlow1 fun O' fr w2 q1 q2 q3 q4 q5 q6 q7 q8 => ?_
    refine hf O' fr w2 q1 q2 (fun r hr => ?_) q4 (by have := k3.size; omega) (by rw [q6, k3.os, hs.os]) (by rw [q7, k3.output, hs.output]) fun r hr hn => ?_
    · rcases q3 r hr with (h | h) | h
      · exact .inl h
      · exact .inr (by omega)
      · exact .inr (by have := k3.size; omega)
    · rw [q8 r (by have := k3.size; omega) fun ho => ?_, k3.kept r (by omega) hn, hs.heap]
      rcases ho with ho | ho
      · exact hn ho
      · omega
/-- Others are started, and all that they send is taken. -/
theorem A.of_MB {Fin : Goroutine → World → Prop} (h : ∀ w', Same w w' → MB P (· < w.heap.size) Fin (fun _ => none) none (fun _ => False) (G fr cs) w')
    (hf : ∀ a w', Fin a w' → ∃ fr' cs', a = G fr' cs' ∧ A P Post fr' cs' w') : A P Post fr cs w := by
  intro gs w' sl t q off hs h0 hL hP
  have hsz : w'.heap.size = w.heap.size := by rw [hs.heap]
  have hlt : 0 < gs.size := (Array.getElem?_eq_some_iff.1 h0).1
  have hlive : LiveG gs.size gs.size = (· = 0) := by
    funext g
    refine propext ⟨fun h => h.elim id fun h => by omega, .inl⟩
  refine crowd_fine (n0 := gs.size) (Post := Post) (fun a gs w2 sl t q off hfin h0 hL hP => ?_) (h w' hs) [] q gs w' sl t (fun _ _ => False) (fun _ => w') true ?_
  · obtain ⟨fr', cs', rfl, hA⟩ := hf a w2 hfin
    exact hA gs w2 sl t q off (Same.refl _) h0 hL hP
  · refine ⟨hlt, by simp, fun i g h1 _ hg => hL.old i g h1 hg, hL.above, .inl ⟨rfl, off, h0⟩, rfl, rfl, (fun j x hx => by simp at hx), (fun j x hx => by simp at hx), (fun i j x y hx => by simp at hx), (fun c hc => by cases hc), (fun c o hc => by cases hc), ?_⟩
    refine ⟨⟨fun _ _ _ _ _ h => h.elim, fun _ _ _ h => h.elim, fun _ _ _ h => h.elim, fun b ⟨j, x, hx, _⟩ => by simp at hx⟩, fun _ _ _ h => h.elim, fun b hb => by rw [hsz]; exact hb, fun b ⟨j, x, hx, _⟩ => by simp at hx, fun g _ => Keeps.refl _ _ _, ?_⟩
    rw [hlive]
    exact TB.ofPast hP
end
section
variable {P : Program} {Post : Value → World → Prop} {FS : FuncId → Prop} {b : Frame} {a : Act} {ops : Array Oper} {i : Nat} {rest : List Nat} {o : Oper} {k : List Item} {cs : List Frame} {w : World}
theorem ev_plain (HF : ∀ f, FS f → FuncP P f) (hop : OpP P FS o.op) {n : Next} {w' w1 : World} (hr : (execOp a.eval o).run P w' = .ok n w1) : (∀ e ∈ listed P b.fn a o w', EvP w1.heap.size e) ∧ w'.heap.size ≤ w1.heap.size := by
  have hr' : (execOp a.eval o).runT P w' #[] = (.ok n w1, (execOp a.eval o).events P w' #[]) := by
    have := Sem.runT_eq P (execOp a.eval o) w' #[]
    rw [this, hr]
  have g := (p_execOp HF (fun f => rfl) hop).run_mv hr'
  refine ⟨fun e he => ?_, g.size⟩
  rcases g.low e (mem_listed he) with h | h
  · simp at h
  · exact h
/-- An operation that yields a value. -/
theorem A.op (HF : ∀ f, FS f → FuncP P f) (ho : ops[i]? = some o) (hw : Region.wanted o (yielded ops a.tmps) = true) (hk : b.kind ≠ .early) (hop : OpP P FS o.op)
    (h : ∀ w', Same w w' → ∃ v w1, (execOp a.eval o).run P w' = .ok (.value v) w1 ∧ A P Post (b.at (a.put o.dst v) (.inRegion ops rest :: k)) cs w1) : A P Post (b.at a (.inRegion ops (i :: rest) :: k)) cs w := by
  refine .one fun w' hs => ?_
  obtain ⟨v, w1, hr, hA⟩ := h w' hs
  obtain ⟨h1, h2⟩ := ev_plain (b := b) HF hop hr
  exact ⟨_, _, w1, _, stepG_value ho hw hk hr, h1, h2, hA⟩
/-- .. that yields nothing. -/
theorem A.skp (HF : ∀ f, FS f → FuncP P f) (ho : ops[i]? = some o) (hw : Region.wanted o (yielded ops a.tmps) = true) (hk : b.kind ≠ .early) (hop : OpP P FS o.op)
    (h : ∀ w', Same w w' → ∃ w1, (execOp a.eval o).run P w' = .ok .skip w1 ∧ A P Post (b.at (a.put o.dst undef) (.inRegion ops rest :: k)) cs w1) : A P Post (b.at a (.inRegion ops (i :: rest) :: k)) cs w := by
  refine .one fun w' hs => ?_
  obtain ⟨w1, hr, hA⟩ := h w' hs
  obtain ⟨h1, h2⟩ := ev_plain (b := b) HF hop hr
  exact ⟨_, _, w1, _, stepG_none ho hw hk hr, h1, h2, hA⟩
/-- .. that leaves memory alone. -/
theorem A.val (v : Value) (HF : ∀ f, FS f → FuncP P f) (ho : ops[i]? = some o) (hw : Region.wanted o (yielded ops a.tmps) = true) (hk : b.kind ≠ .early) (hop : OpP P FS o.op) (hr : ∀ w', Same w w' → (execOp a.eval o).run P w' = .ok (.value v) w')
    (h : A P Post (b.at (a.put o.dst v) (.inRegion ops rest :: k)) cs w) : A P Post (b.at a (.inRegion ops (i :: rest) :: k)) cs w :=
  .op HF ho hw hk hop fun w' hs => ⟨v, w', hr w' hs, h.same hs⟩
theorem A.mov {x : Operand} (v : Value) (ho : ops[i]? = some o) (hw : Region.wanted o (yielded ops a.tmps) = true) (hop : o.op = .move x ∨ o.op = .assign x) (hv : a.eval x = v) (hk : b.kind ≠ .early)
    (h : A P Post (b.at (a.put o.dst v) (.inRegion ops rest :: k)) cs w) : A P Post (b.at a (.inRegion ops (i :: rest) :: k)) cs w := by
  refine .op (FS := fun _ => False) (fun _ h => h.elim) ho hw hk (by rcases hop with e | e <;> rw [e] <;> trivial) fun w' hs => ⟨v, w', ?_, h.same hs⟩
  rcases hop with e | e <;> (unfold execOp; simp [e, hv])
/-- A function is entered. -/
theorem A.ent {f : FuncId} {xs : Array Value} (ho : ops[i]? = some o) (hw : Region.wanted o (yielded ops a.tmps) = true) (hk : b.kind ≠ .early) (hr : ∀ w', (execOp a.eval o).run P w' = .ok (.enter f xs) w') (he : ∀ w', (execOp a.eval o).events P w' #[] = #[])
    (h : A P Post (Frame.enter P f xs .normal) (b.at a (.inRegion ops (i :: rest) :: k) :: cs) w) : A P Post (b.at a (.inRegion ops (i :: rest) :: k)) cs w := by
  refine .one fun w' hs => ⟨_, _, w', _, stepG_enter ho hw hk (hr w'), fun e hh => ?_, Nat.le_refl _, h.same hs⟩
  have := mem_listed hh
  rw [he w'] at this
  simp at this
end
end Go.Proofs.Ytgeoffpcmkofkaa
/- The corners of some points, worked out in company. -/
namespace Go.Proofs.Ytgeoffpcmkofkaa
open Go Go.Conc Go.RowKit

/-- A row of points that is not the one that was read. -/
def RowQ (r0 : Nat) (v : Value) (w : World) (out : Pts) : Prop := (v = .slice none 0 0 ∧ out = []) ∨ ∃ g cap, v = .slice (some ⟨g, 0, none⟩) out.length cap ∧ g ≠ r0 ∧ PtsAt w g 0 out
/-- What 'around' does, alone, with a row that may not be written. -/
def AroundC (r0 off n cap : Nat) (c : Array Value) (out : Pts) : Prop := ∀ wl : World, wl.heap[r0]? = some (.cells c 23 (0, c.size)) → Calls Try.prog 70 #[.slice (some ⟨r0, off, none⟩) n cap] wl fun e w' => ∃ v, e = .returned v ∧ RowQ r0 v w' out
/-- .. and with none. -/
def AroundN (out : Pts) : Prop := ∀ wl : World, Calls Try.prog 70 #[.slice none 0 0] wl fun e w' => ∃ v, e = .returned v ∧ RowQ 0 v w' out
noncomputable abbrev GN : Nat := Try.prog.globals.size
section
variable {L : Nat} {FS : FuncId → Prop} {O S : Nat → Prop} {B : BR} {wl w : World} {v v' : Value} {out : Pts} {r0 : Nat}
theorem row_fin {Sh : Nat → Prop} (hSh : ∀ r, Sh r → r = r0) (hH : Has Sh B O S) (hw : WR L FS Sh B wl w) (hv : VR L FS B v v') (hq : RowQ r0 v wl out) : RowO O w v' out := by
  rcases hq with ⟨rfl, rfl⟩ | ⟨g, cap, rfl, hg, hp⟩
  · cases hv
    exact .inl ⟨rfl, rfl⟩
  · cases hv with
    | slice l c ha =>
      rename_i a'
      obtain ⟨b', o', s'⟩ := a'
      have h1 : o' = 0 := ha.off
      have h2 : s' = none := ha.spot
      subst h1 h2
      have hB : B g b' := ha.block
      refine .inr ⟨b', cap, rfl, (hH g b' hB).2 fun h => hg (hSh g h), fun i hi => ?_⟩
      obtain ⟨q1, q2⟩ := hp i hi
      have a1 : AR L B (⟨g, 0 + i * 2, none⟩ : Addr) ⟨b', 0 + i * 2, none⟩ := ⟨hB, rfl, rfl, ha.low⟩
      have a2 : AR L B (⟨g, 0 + i * 2 + 1, none⟩ : Addr) ⟨b', 0 + i * 2 + 1, none⟩ := ⟨hB, rfl, rfl, ha.low⟩
      obtain ⟨x, e1, e2⟩ := hw.cell a1 q1
      obtain ⟨y, e3, e4⟩ := hw.cell a2 q2
      cases e2
      cases e4
      exact ⟨e1, e3⟩
theorem ints_rel {c : Array Value} (h : ∀ x ∈ c.toList, ∃ n, x = .int .i64 n) (B : BR) : VRs L FS B c.toList c.toList := by
  generalize c.toList = l at h
  induction l with
  | nil => exact .nil
  | cons x l ih =>
    obtain ⟨n, rfl⟩ := h x (by simp)
    exact .cons (.int _ _) (ih fun y hy => h y (by simp [hy]))
theorem rowQ_on {T : Nat → Question → Nat} (h : RowQ r0 v w out) : RowQ r0 v (on w T) out := h
end
theorem fs70 : FSof fsB 70 := by decide
/-- The call, in company: it runs to its end. -/
theorem around_runs {r0 off n cap N : Nat} {c : Array Value} {out : Pts} {w : World} (hC : AroundC r0 off n cap c out) (hw : w.heap[r0]? = some (.cells c 23 (0, 0))) (hc : ∀ x ∈ c.toList, ∃ n, x = .int .i64 n) (hG : GN ≤ w.heap.size) (hr : GN ≤ r0) (hN : r0 < N) (base : List Frame) :
    Runs Try.prog (· < N) base (FinV GN (FSof fsB) (· = r0) Try.prog (· < N) (PostV Try.prog 70 fun v w' => RowQ r0 v w' out)) (fun _ => False) (Frame.enter Try.prog 70 #[.slice (some ⟨r0, off, none⟩) n cap] .normal) base w := by
  have hlt : r0 < w.heap.size := (Array.getElem?_eq_some_iff.1 hw).1
  refine runs_of_calls (G := GN) (FS := FSof fsB) (Sh := (· = r0)) (Q := fun v w' => RowQ r0 v w' out) (openOK (Nat.le_refl _)) bodies noEarly fs70 (B := fun r r' => r = r0 ∧ r' = r0) (xs := #[.slice (some ⟨r0, off, none⟩) n cap]) ?_ (iced_WR (c := c) (e := 23) hw hG fun B => ints_rel hc B) (fun r r' hb => ⟨fun _ => by rw [hb.2]; exact hN, fun h => absurd hb.1 h⟩) (fun v w T h => rowQ_on h) (fun T => hC (on (iced w r0 c 23) T) (iced_at hlt)) base
  exact .cons (.slice _ _ ⟨⟨rfl, rfl⟩, rfl, rfl, hr⟩) .nil
theorem around_fin {r0 N : Nat} {out : Pts} {O : Nat → Prop} {fr : Frame} {w : World} (hm : fr.mode = .returning) (h : ∀ w2, Keeps O (· < N) w w2 → FinV GN (FSof fsB) (· = r0) Try.prog (· < N) (PostV Try.prog 70 fun v w' => RowQ r0 v w' out) O fr w2) :
    ∃ v', RowO O w v' out ∧ ∀ main w2 c rest, stepG Try.prog main (G fr (c :: rest)) w2 = .go (G (c.finish v') rest) w2 #[] := by
  obtain ⟨v', h1, h2⟩ := fin_ret2 bodies fs70 h hm
  obtain ⟨B, v, wl, q1, q2, q3, q4⟩ := h1 w (Keeps.refl _ _ _)
  exact ⟨v', row_fin (fun r h => h) q1 q2 q3 q4, fun main w2 c rest => h2 w2 main c rest⟩
/-- One that works a part's corners out and sends them. -/
theorem kid71 {r0 off n cap N ch : Nat} {c : Array Value} {out : Pts} {w : World} (hC : AroundC r0 off n cap c out) (hw : w.heap[r0]? = some (.cells c 23 (0, 0))) (hc : ∀ x ∈ c.toList, ∃ n, x = .int .i64 n) (hG : GN ≤ w.heap.size) (hr : GN ≤ r0) (hN : r0 < N) (hlen : out.length ≤ 1000) :
    KT Try.prog (· < N) ch (out.map ptV) (fun _ => False) (born Try.prog (dcall 91 #[.slice (some ⟨r0, off, none⟩) n cap, .chan (some ch)])) w := by
  refine kid91 hlen (fun base w2 k => around_runs hC (by rw [k.block r0 (.inr hN)]; exact hw) hc (Nat.le_trans hG k.size) hr hN base) fun O fr w2 hm hf => ?_
  obtain ⟨v', h1, h2⟩ := around_fin hm hf
  exact ⟨v', h1, fun w2 c rest => h2 false w2 c rest⟩
/-- The main goroutine calls it. -/
theorem A.around {Post : Value → World → Prop} {r0 off n cap : Nat} {c : Array Value} {out : Pts} {w : World} {x : Frame} {cs : List Frame} (hC : AroundC r0 off n cap c out) (hw : w.heap[r0]? = some (.cells c 23 (0, 0))) (hc : ∀ x ∈ c.toList, ∃ n, x = .int .i64 n) (hr : GN ≤ r0)
    (h : ∀ v w', RowO (w.heap.size ≤ ·) w' v out → w.heap.size ≤ w'.heap.size → w'.os = w.os → w'.output = w.output → (∀ r, r < w.heap.size → w'.heap[r]? = w.heap[r]?) → A Try.prog Post (x.finish v) cs w') :
    A Try.prog Post (Frame.enter Try.prog 70 #[.slice (some ⟨r0, off, none⟩) n cap] .normal) (x :: cs) w := by
  have hlt : r0 < w.heap.size := (Array.getElem?_eq_some_iff.1 hw).1
  have hR := around_runs (N := w.heap.size) hC hw hc (by omega) hr hlt (x :: cs)
  refine A.of_runs hR (fun r hr => hr.elim (fun h => h.elim) id) fun O' fr w' hm hf q1 q2 q3 q4 q5 q6 => ?_
  obtain ⟨v', h1, h2⟩ := around_fin hm hf
  refine .ctl (fun w2 => h2 true w2 x cs) (h v' w' ?_ q3 q4 q5 fun r hr => q6 r hr fun h => h.elim)
  exact h1.imp id fun ⟨g, cap, e1, e2, e3⟩ => ⟨g, cap, e1, (q1 g e2).elim (fun h => h.elim) id, e3⟩
end Go.Proofs.Ytgeoffpcmkofkaa
/- 'around', as the main goroutine's walk and the others' ask for it. -/
namespace Go.Proofs.Ytgeoffpcmkofkaa
open Go Go.Conc Go.RowKit Fl

theorem rowQ_own {r0 base : Nat} {v : Value} {w : World} {out : Pts} (h : OwnP w base v out) (hr : r0 < base) : RowQ r0 v w out := by
  rcases h.form with ⟨rfl, e⟩ | ⟨g, cap, rfl, hb, _⟩
  · exact .inl ⟨rfl, e⟩
  · exact .inr ⟨g, cap, rfl, by omega, h.pts⟩
/-- The cells of a list of points that lies in a block. -/
def PtsIn (c : Array Value) (off : Nat) (l : Pts) : Prop := ∀ i (hi : i < l.length), c[off + i * 2]? = some (.int .i64 l[i].1) ∧ c[off + i * 2 + 1]? = some (.int .i64 l[i].2)
theorem PtsIn.at {c : Array Value} {off r0 : Nat} {l : Pts} {w : World} {fz : Nat × Nat} (h : PtsIn c off l) (hw : w.heap[r0]? = some (.cells c 23 fz)) : PtsAt w r0 off l := fun i hi => by
  obtain ⟨h1, h2⟩ := h i hi
  simp only [World.cell?, hw]
  exact ⟨h1, h2⟩
theorem aroundC {r0 off cap : Nat} {c : Array Value} {l s : Pts} (h : PtsIn c off l) (hl : l.length ≤ 400000) (hc : ∀ x ∈ l, CdP x) (hs : IsDis l s) : AroundC r0 off l.length cap c (ringL s) := fun wl hw => by
  refine (around_some r0 off cap l wl (h.at hw) hl hc).mono ?_
  rintro e w' ⟨v, s', rfl, H⟩
  have e : s' = s := dis_unique H.out.1.rising hs.rising fun x => by rw [H.out.1.mem, hs.mem]
  subst e
  exact ⟨v, rfl, rowQ_own H.out.2.2 (Array.getElem?_eq_some_iff.1 hw).1⟩
theorem aroundN : AroundN [] := fun wl => (around_nil wl).mono fun _ _ h => ⟨_, h.1, .inl ⟨rfl, rfl⟩⟩
end Go.Proofs.Ytgeoffpcmkofkaa
/- There and back: where the two ways meet. (Pure.) -/
namespace Go.Proofs.Ytgeoffpcmkofkaa
section
variable {α : Type} {D : α → α → α → Int} {K : α → Int}
theorem Pl.neg (h : Pl D K) : Pl D (fun x => -K x) := ⟨h.rot, h.swp, fun s t p x => by have := h.pl s t p x; grind⟩
/-- If the two ways do not turn where they meet, all lies in a line. -/
theorem Pl.join (h : Pl D K) {u m v x : α} (k1 : K u < K m) (k2 : K v < K m) (hd : D u m v = 0) (h1 : 0 ≤ D u m x) (h2 : 0 ≤ D m v x) : D u m x = 0 ∧ D m v x = 0 := by
  have e := h.pl m v u x
  have r1 := h.swp u m x
  have r2 := h.rot u m v
  have e0 : D m v u = 0 := by omega
  rw [e0, r1] at e
  have a1 := Int.mul_nonneg h1 (show 0 ≤ K m - K v by omega)
  have a2 := Int.mul_nonneg h2 (show 0 ≤ K m - K u by omega)
  have e1 : -D u m x * (K v - K m) = D u m x * (K m - K v) := by grind
  have e2 : D m v x * (K u - K m) - 0 * (K x - K m) = -(D m v x * (K m - K u)) := by grind
  have z1 : D u m x * (K m - K v) = 0 := by omega
  have z2 : D m v x * (K m - K u) = 0 := by omega
  rcases Int.mul_eq_zero.1 z1 with z1 | z1
  · rcases Int.mul_eq_zero.1 z2 with z2 | z2
    · exact ⟨z1, z2⟩
    · omega
  · omega
/-- The turn where the way there ends and the way back begins: there are three corners or more. -/
theorem Pl.turn (h : Pl D K) {Seen : α → Prop} {u m v : α} (k1 : K u < K m) (k2 : K v < K m) (hu : ∀ x, Seen x → 0 ≤ D u m x) (hv : ∀ x, Seen x → 0 ≤ D m v x) (hsv : Seen v)
    (more : (∃ a, Seen a ∧ 0 < D a u m) ∨ ∃ b, Seen b ∧ 0 < D m v b) : 0 < D u m v := by
  rcases Int.lt_or_le 0 (D u m v) with hd | hd
  · exact hd
  · have hz : D u m v = 0 := by have := hu v hsv; omega
    rcases more with ⟨a, ha, hp⟩ | ⟨b, hb, hp⟩
    · have := (h.join k1 k2 hz (hu a ha) (hv a ha)).1
      have r := h.rot a u m
      omega
    · have := (h.join k1 k2 hz (hu b hb) (hv b hb)).2
      omega
end
end Go.Proofs.Ytgeoffpcmkofkaa
/- What holds of all corners of a part holds of all its points. (Pure.) -/
namespace Go.Proofs.Ytgeoffpcmkofkaa
/-- D u v is affine. -/
def Aff {α : Type} (D : α → α → α → Int) (K : α → Int) : Prop := ∀ u v a b x, D u v x * (K b - K a) = D u v a * (K b - K x) + D u v b * (K x - K a) + D a b x * (K v - K u)
section
variable {α : Type} {D : α → α → α → Int} {K : α → Int}
theorem Aff.neg (h : Aff D K) : Aff D (fun x => -K x) := fun u v a b x => by have := h u v a b x; grind
/-- The side of the way below which, or above which, x lies. -/
theorem span : ∀ {way : List α} {x : α}, Falls K way → (∀ t ∈ way.head?, K x ≤ K t) → (∀ m ∈ way.getLast?, K m ≤ K x) → way ≠ [] → LeftOf D x way → (∃ m, way = [m] ∧ K x = K m) ∨ ∃ a b, a ∈ way ∧ b ∈ way ∧ K a < K b ∧ K a ≤ K x ∧ K x ≤ K b ∧ 0 ≤ D a b x
  | [], x, _, _, _, hn, _ => absurd rfl hn
  | [m], x, _, ht, hl, _, _ => .inl ⟨m, rfl, by
      have h1 := ht m (by simp)
      have h2 := hl m (by simp)
      omega⟩
  | b :: a :: l, x, hf, ht, hl, _, hx => by
    rcases Int.lt_or_le (K x) (K a) with hk | hk
    · rcases span hf.2 (fun t e => by
        have : a = t := by simpa using e
        rw [← this]; exact Int.le_of_lt hk) (by simpa using hl) (by simp) hx.2 with ⟨m, e, e'⟩ | ⟨a', b', h1, h2, h3⟩
      · injection e with e1 e2
        subst e1
        omega
      · exact .inr ⟨a', b', List.mem_cons_of_mem _ h1, List.mem_cons_of_mem _ h2, h3⟩
    · exact .inr ⟨a, b, by simp, by simp, hf.1, hk, ht b (by simp), hx.1⟩
/-- A side that looks forward: it is enough to look at the way's points. -/
theorem enough (hA : Aff D K) {Seen : α → Prop} {way : List α} (hw : WayOK D K Seen way) {u v : α} (huv : K u ≤ K v) (hc : ∀ c ∈ way, 0 ≤ D u v c) {x : α} (hx : Seen x) : 0 ≤ D u v x := by
  have ht : ∀ t ∈ way.head?, K x ≤ K t := by
    intro t e
    cases way with
    | nil => simp at e
    | cons t' l =>
      have : t' = t := by simpa using e
      subst this
      exact hw.top t' l rfl x hx
  rcases span hw.falls ht (fun m e => (hw.low m e x hx).1) hw.some (hw.left x hx) with ⟨m, e, e'⟩ | ⟨a, b, h1, h2, h3, h4, h5, h6⟩
  · have : x = m := (hw.low m (by rw [e]; simp) x hx).2 e'
    rw [this]
    exact hc m (by rw [e]; simp)
  · have e := hA u v a b x
    refine pos_of (b := K b - K a) ?_ (by omega)
    rw [e]
    have a1 := Int.mul_nonneg (hc a h1) (show 0 ≤ K b - K x by omega)
    have a2 := Int.mul_nonneg (hc b h2) (show 0 ≤ K x - K a by omega)
    have a3 := Int.mul_nonneg h6 (show 0 ≤ K v - K u by omega)
    omega
end
end Go.Proofs.Ytgeoffpcmkofkaa
/- The ways, by places. (Pure.) -/
namespace Go.Proofs.Ytgeoffpcmkofkaa
section
variable {α : Type} {D : α → α → α → Int} {K : α → Int}
theorem Turns.get : ∀ {l : List α}, Turns D l → ∀ (i : Nat) {a b c : α}, l[i]? = some c → l[i + 1]? = some b → l[i + 2]? = some a → 0 < D a b c
  | [], _, i, _, _, _, h, _, _ => by simp at h
  | [_], _, 0, _, _, _, _, h, _ => by simp at h
  | [_], _, i + 1, _, _, _, h, _, _ => by simp at h
  | [_, _], _, 0, _, _, _, _, _, h => by simp at h
  | [_, _], _, i + 1, _, _, _, _, h, _ => by simp at h
  | c :: b :: a :: l, ht, 0, a', b', c', h1, h2, h3 => by
    simp at h1 h2 h3
    subst h1 h2 h3
    exact ht.1
  | c :: b :: a :: l, ht, i + 1, a', b', c', h1, h2, h3 => ht.2.get i (by simpa using h1) (by simpa using h2) (by simpa using h3)
theorem LeftOf.get {x : α} : ∀ {l : List α}, LeftOf D x l → ∀ (i : Nat) {u v : α}, l[i]? = some v → l[i + 1]? = some u → 0 ≤ D u v x
  | [], _, i, _, _, h, _ => by simp at h
  | [_], _, 0, _, _, _, h => by simp at h
  | [_], _, i + 1, _, _, h, _ => by simp at h
  | v :: u :: l, hl, 0, u', v', h1, h2 => by
    simp at h1 h2
    subst h1 h2
    exact hl.1
  | v :: u :: l, hl, i + 1, u', v', h1, h2 => hl.2.get i (by simpa using h1) (by simpa using h2)
theorem Falls.get : ∀ {l : List α}, Falls K l → ∀ (i : Nat) {u v : α}, l[i]? = some v → l[i + 1]? = some u → K u < K v
  | [], _, i, _, _, h, _ => by simp at h
  | [_], _, 0, _, _, _, h => by simp at h
  | [_], _, i + 1, _, _, h, _ => by simp at h
  | v :: u :: l, hl, 0, u', v', h1, h2 => by
    simp at h1 h2
    subst h1 h2
    exact hl.1
  | v :: u :: l, hl, i + 1, u', v', h1, h2 => hl.2.get i (by simpa using h1) (by simpa using h2)
/-- Read from its first point: rising, left turns, no point to the right. -/
structure Rises (D : α → α → α → Int) (K : α → Int) (Seen : α → Prop) (r : List α) : Prop where
  turns : ∀ (i : Nat) (a b c : α), r[i]? = some a → r[i + 1]? = some b → r[i + 2]? = some c → 0 < D a b c
  left : ∀ (i : Nat) (u v x : α), r[i]? = some u → r[i + 1]? = some v → Seen x → 0 ≤ D u v x
  rise : ∀ (i : Nat) (u v : α), r[i]? = some u → r[i + 1]? = some v → K u < K v
  part : ∀ x ∈ r, Seen x
theorem WayOK.rises {Seen : α → Prop} {way : List α} (h : WayOK D K Seen way) : Rises D K Seen way.reverse := by
  have rv : ∀ (j : Nat) (z : α), way.reverse[j]? = Option.some z → j < way.length ∧ way[way.length - 1 - j]? = Option.some z := by
    intro j z hz
    have hlt : j < way.length := by
      have := (List.getElem?_eq_some_iff.1 hz).1
      simpa using this
    rw [List.getElem?_reverse hlt] at hz
    exact ⟨hlt, hz⟩
  refine ⟨fun i a b c h1 h2 h3 => ?_, fun i u v x h1 h2 hx => ?_, fun i u v h1 h2 => ?_, fun x hx => h.part x (by simpa using hx)⟩
  · obtain ⟨l1, e1⟩ := rv _ _ h1
    obtain ⟨l2, e2⟩ := rv _ _ h2
    obtain ⟨l3, e3⟩ := rv _ _ h3
    exact h.turns.get (way.length - 1 - (i + 2)) e3 (by rw [show way.length - 1 - (i + 2) + 1 = way.length - 1 - (i + 1) by omega]; exact e2) (by rw [show way.length - 1 - (i + 2) + 2 = way.length - 1 - i by omega]; exact e1)
  · obtain ⟨l1, e1⟩ := rv _ _ h1
    obtain ⟨l2, e2⟩ := rv _ _ h2
    exact (h.left x hx).get (way.length - 1 - (i + 1)) e2 (by rw [show way.length - 1 - (i + 1) + 1 = way.length - 1 - i by omega]; exact e1)
  · obtain ⟨l1, e1⟩ := rv _ _ h1
    obtain ⟨l2, e2⟩ := rv _ _ h2
    exact h.falls.get (way.length - 1 - (i + 1)) e2 (by rw [show way.length - 1 - (i + 1) + 1 = way.length - 1 - i by omega]; exact e1)
end
end Go.Proofs.Ytgeoffpcmkofkaa
/- The closed way round: its sides and its turns. (Pure.) -/
namespace Go.Proofs.Ytgeoffpcmkofkaa
section
variable {α : Type} {D : α → α → α → Int} {K : α → Int} {Seen : α → Prop}
/-- There and back again. -/
structure Round (T U : List α) (p q : Nat) : Prop where
  lenT : T.length = p + 1
  lenU : U.length = q + 1
  p1 : 1 ≤ p
  q1 : 1 ≤ q
  join : T[p]? = U[0]?
  close : U[q]? = T[0]?
/-- Each way without its last point. -/
def ring (T U : List α) (p q : Nat) : List α := T.take p ++ U.take q
theorem Round.length {T U : List α} {p q : Nat} (h : Round T U p q) : (ring T U p q).length = p + q := by
  simp only [ring, List.length_append, List.length_take, h.lenT, h.lenU]
  omega
theorem Round.at {T U : List α} {p q : Nat} (h : Round T U p q) {i : Nat} (hi : i < p + q) : (ring T U p q)[i]? = if i < p then T[i]? else U[i - p]? := by
  have hl : (T.take p).length = p := by simp [h.lenT]
  unfold ring
  by_cases hp : i < p
  · rw [List.getElem?_append_left (by rw [hl]; exact hp), List.getElem?_take_of_lt hp, if_pos hp]
  · rw [List.getElem?_append_right (by rw [hl]; omega), hl, List.getElem?_take_of_lt (by omega), if_neg hp]
/-- The place behind, round about. -/
theorem Round.next {T U : List α} {p q : Nat} (h : Round T U p q) {i : Nat} (hi : i < p + q) : (ring T U p q)[(i + 1) % (p + q)]? = if i + 1 ≤ p then T[i + 1]? else U[i + 1 - p]? := by
  have p1 := h.p1
  have q1 := h.q1
  by_cases hn : i + 1 = p + q
  · rw [hn, Nat.mod_self, h.at (by omega), if_pos (by omega), if_neg (by omega), show p + q - p = q by omega, h.close]
  · rw [Nat.mod_eq_of_lt (by omega), h.at (by omega)]
    by_cases h1 : i + 1 < p
    · rw [if_pos h1, if_pos (by omega)]
    · rw [if_neg h1]
      by_cases h2 : i + 1 = p
      · rw [if_pos (by omega), h2, h.join, Nat.sub_self]
      · rw [if_neg (by omega)]
theorem Round.sides {T U : List α} {p q : Nat} (h : Round T U p q) (hT : Rises D K Seen T) (hU : Rises D (fun x => -K x) Seen U) {i : Nat} (hi : i < p + q) {u v : α} (e1 : (ring T U p q)[i]? = some u) (e2 : (ring T U p q)[(i + 1) % (p + q)]? = some v) {x : α} (hx : Seen x) : 0 ≤ D u v x := by
  rw [h.at hi] at e1
  rw [h.next hi] at e2
  by_cases hp : i < p
  · rw [if_pos hp] at e1
    rw [if_pos (by omega)] at e2
    exact hT.left i u v x e1 e2 hx
  · rw [if_neg hp] at e1
    rw [if_neg (by omega)] at e2
    exact hU.left (i - p) u v x e1 (by rw [show i - p + 1 = i + 1 - p by omega]; exact e2) hx
theorem Round.turns (hP : Pl D K) {T U : List α} {p q : Nat} (h : Round T U p q) (hT : Rises D K Seen T) (hU : Rises D (fun x => -K x) Seen U) (h3 : 3 ≤ p + q) {i : Nat} (hi : i < p + q) {a b c : α} (e1 : (ring T U p q)[i]? = some a) (e2 : (ring T U p q)[(i + 1) % (p + q)]? = some b) (e3 : (ring T U p q)[(i + 2) % (p + q)]? = some c) : 0 < D a b c := by
  have p1 := h.p1
  have q1 := h.q1
  have e3' : (ring T U p q)[((i + 1) % (p + q) + 1) % (p + q)]? = some c := by
    rw [Nat.mod_add_mod]; exact e3
  have hj : (i + 1) % (p + q) < p + q := Nat.mod_lt _ (by omega)
  rw [h.next hj] at e3'
  have e2' := e2
  rw [h.next hi] at e2'
  rw [h.at hi] at e1
  have get : ∀ {l : List α} {k : Nat}, k < l.length → ∃ z, l[k]? = some z := fun hk => ⟨_, List.getElem?_eq_getElem hk⟩
  by_cases hp : i + 1 < p
  · -- both in the way there
    rw [if_pos (by omega)] at e1 e2'
    rw [Nat.mod_eq_of_lt (by omega), if_pos (by omega)] at e3'
    exact hT.turns i a b c e1 e2' e3'
  · by_cases hp2 : i + 1 = p
    · -- where the way there ends
      rw [if_pos (by omega)] at e1 e2'
      rw [hp2, Nat.mod_eq_of_lt (by omega), if_neg (by omega), show p + 1 - p = 1 by omega] at e3'
      have e2U : U[0]? = some b := by rw [← h.join, ← hp2]; exact e2'
      refine hP.turn (Seen := Seen) (hT.rise i a b e1 e2') (by have := hU.rise 0 b c e2U e3'; omega) (fun x hx => hT.left i a b x e1 e2' hx) (fun x hx => hU.left 0 b c x e2U e3' hx) (hU.part c (List.mem_of_getElem? e3')) ?_
      by_cases hq : 2 ≤ q
      · obtain ⟨z, hz⟩ := get (l := U) (k := 2) (by rw [h.lenU]; omega)
        exact .inr ⟨z, hU.part z (List.mem_of_getElem? hz), hU.turns 0 b c z e2U e3' hz⟩
      · obtain ⟨z, hz⟩ := get (l := T) (k := i - 1) (by rw [h.lenT]; omega)
        exact .inl ⟨z, hT.part z (List.mem_of_getElem? hz), hT.turns (i - 1) z a b hz (by rw [show i - 1 + 1 = i by omega]; exact e1) (by rw [show i - 1 + 2 = i + 1 by omega]; exact e2')⟩
    · rw [if_neg (by omega)] at e1 e2'
      by_cases hn : i + 1 = p + q
      · -- where the way back ends
        rw [hn, Nat.mod_self, if_pos (by omega)] at e3'
        have e2T : T[0]? = some b := by rw [← h.close, show q = i + 1 - p by omega]; exact e2'
        have e2U : U[i - p + 1]? = some b := by rw [show i - p + 1 = i + 1 - p by omega]; exact e2'
        refine hP.neg.turn (Seen := Seen) (hU.rise (i - p) a b e1 e2U) (by have := hT.rise 0 b c e2T e3'; omega) (fun x hx => hU.left (i - p) a b x e1 e2U hx) (fun x hx => hT.left 0 b c x e2T e3' hx) (hT.part c (List.mem_of_getElem? e3')) ?_
        by_cases hq : 2 ≤ p
        · obtain ⟨z, hz⟩ := get (l := T) (k := 2) (by rw [h.lenT]; omega)
          exact .inr ⟨z, hT.part z (List.mem_of_getElem? hz), hT.turns 0 b c z e2T e3' hz⟩
        · obtain ⟨z, hz⟩ := get (l := U) (k := i - p - 1) (by rw [h.lenU]; omega)
          exact .inl ⟨z, hU.part z (List.mem_of_getElem? hz), hU.turns (i - p - 1) z a b hz (by rw [show i - p - 1 + 1 = i - p by omega]; exact e1) (by rw [show i - p - 1 + 2 = i - p + 1 by omega]; exact e2U)⟩
      · rw [Nat.mod_eq_of_lt (by omega), if_neg (by omega)] at e3'
        exact hU.turns (i - p) a b c e1 (by rw [show i - p + 1 = i + 1 - p by omega]; exact e2') (by rw [show i - p + 2 = i + 1 + 1 - p by omega]; exact e3')
end
end Go.Proofs.Ytgeoffpcmkofkaa
/- Which points are corners. (Pure.) -/
namespace Go.Proofs.Ytgeoffpcmkofkaa
section
variable {α : Type} {D : α → α → α → Int} {K : α → Int} {Seen : α → Prop}
/-- A point from which all others lie left of a way forward, none of them straight behind it, is one of the way there. -/
theorem corner_in (hP : Pl D K) (hA : Aff D K) {way : List α} (hw : WayOK D K Seen way) {x k : α} (hx : Seen x) (hk : K x < K k) (hF : ∀ j, Seen j → 0 ≤ D x k j) (back : ∀ j, Seen j → D x k j = 0 → ¬K j < K x) (inj : ∀ a, Seen a → K a = K x → a = x) : x ∈ way := by
  have ht : ∀ t ∈ way.head?, K x ≤ K t := by
    intro t e
    cases way with
    | nil => simp at e
    | cons t' l =>
      have : t' = t := by simpa using e
      subst this
      exact hw.top t' l rfl x hx
  rcases span hw.falls ht (fun m e => (hw.low m e x hx).1) hw.some (hw.left x hx) with ⟨m, e, e'⟩ | ⟨a, b, h1, h2, h3, h4, h5, h6⟩
  · have : m = x := inj m (hw.part m (by rw [e]; simp)) e'.symm
    rw [e, this]
    simp
  · by_cases ka : K a = K x
    · rw [← inj a (hw.part a h1) ka]; exact h1
    · by_cases kb : K b = K x
      · rw [← inj b (hw.part b h2) kb]; exact h2
      · exfalso
        have e := hA x k a b x
        rw [hP.same] at e
        have fa := hF a (hw.part a h1)
        have fb := hF b (hw.part b h2)
        have a2 := Int.mul_nonneg fb (show 0 ≤ K x - K a by omega)
        have a3 := Int.mul_nonneg h6 (show 0 ≤ K k - K x by omega)
        have z : D x k a = 0 := by
          rcases Int.lt_or_le 0 (D x k a) with hpos | hneg
          · have := Int.mul_pos hpos (show 0 < K b - K x by omega)
            omega
          · omega
        exact back a (hw.part a h1) z (by omega)
/-- A point of the way there, but its last, is such a point: towards the next one. -/
theorem in_corner (hP : Pl D K) {T : List α} (hT : Rises D K Seen T) (first : ∀ f, T[0]? = some f → ∀ j, Seen j → K f ≤ K j) {i : Nat} {x k : α} (e1 : T[i]? = some x) (e2 : T[i + 1]? = some k) : K x < K k ∧ (∀ j, Seen j → 0 ≤ D x k j) ∧ ∀ j, Seen j → D x k j = 0 → ¬K j < K x := by
  have hk := hT.rise i x k e1 e2
  refine ⟨hk, fun j hj => hT.left i x k j e1 e2 hj, fun j hj hz hlt => ?_⟩
  cases i with
  | zero =>
    have := first x e1 j hj
    omega
  | succ i =>
    have hlen : i < T.length := by
      have := (List.getElem?_eq_some_iff.1 e1).1
      omega
    have ea : T[i]? = some T[i] := List.getElem?_eq_getElem hlen
    have t := hT.turns i T[i] x k ea e1 e2
    have l := hT.left i T[i] x j ea e1 hj
    generalize T[i] = a at t l
    -- at x: D x a j * (K k - K x) = D x k j * (K a - K x) - D x k a * (K j - K x)
    have e := hP.pl x k a j
    rw [hz] at e
    have r1 := hP.swp a x j
    have r2 := hP.rot a x k
    have a1 := Int.mul_nonneg l (show 0 ≤ K k - K x by omega)
    have a2 := Int.mul_pos t (show 0 < K x - K j by omega)
    have e3 : D x a j * (K k - K x) = -(D a x j * (K k - K x)) := by rw [r1]; grind
    have e4 : 0 * (K a - K x) - D x k a * (K j - K x) = D a x k * (K x - K j) := by rw [r2]; grind
    omega
end
end Go.Proofs.Ytgeoffpcmkofkaa
/- The two ways of one list make a round. (Pure.) -/
namespace Go.Proofs.Ytgeoffpcmkofkaa
section
variable {α : Type} {D : α → α → α → Int} {K : α → Int} {Seen : α → Prop}
theorem WayOK.two {L : List α} (h : WayOK D K Seen L) {a b : α} (ha : Seen a) (hb : Seen b) (hab : K a < K b) : 2 ≤ L.length := by
  cases L with
  | nil => exact absurd rfl h.some
  | cons t l =>
    cases l with
    | cons u l => simp
    | nil =>
      have h1 := h.top t [] rfl b hb
      have h2 := (h.low t (by simp) a ha).1
      have h3 := h.low t (by simp) b hb
      omega
/-- The first of one is the last of the other. -/
theorem ends_meet {L U : List α} (h : WayOK D K Seen L) (hu : WayOK D (fun x => -K x) Seen U) : L.head? = U.getLast? := by
  cases L with
  | nil => exact absurd rfl h.some
  | cons t l =>
    cases hm : U.getLast? with
    | none => exact absurd (List.getLast?_eq_none_iff.1 hm) hu.some
    | some m =>
      have ht : Seen t := h.part t (by simp)
      have hsm : Seen m := hu.part m (List.mem_of_getLast? hm)
      have h1 := h.top t l rfl m hsm
      have h2 := hu.low m (by rw [hm]; rfl) t ht
      have : t = m := h2.2 (by have := h2.1; omega)
      rw [this]
      rfl
theorem round_of {L U : List α} (h : WayOK D K Seen L) (hu : WayOK D (fun x => -K x) Seen U) {a b : α} (ha : Seen a) (hb : Seen b) (hab : K a < K b) : Round L.reverse U.reverse (L.length - 1) (U.length - 1) := by
  have l2 := h.two ha hb hab
  have u2 := hu.two hb ha (by omega)
  have hu' : WayOK D (fun x => - -K x) Seen L := by
    have e : (fun x => - -K x) = K := by funext x; omega
    rw [e]; exact h
  have m1 := ends_meet h hu
  have m2 := ends_meet hu hu'
  refine ⟨by simp; omega, by simp; omega, by omega, by omega, ?_, ?_⟩
  · rw [List.getElem?_reverse (by omega), List.getElem?_reverse (by omega), show L.length - 1 - (L.length - 1) = 0 by omega, Nat.sub_zero, ← List.head?_eq_getElem?, m1, List.getLast?_eq_getElem?]
  · rw [List.getElem?_reverse (by omega), List.getElem?_reverse (by omega), show U.length - 1 - (U.length - 1) = 0 by omega, Nat.sub_zero, ← List.head?_eq_getElem?, m2, List.getLast?_eq_getElem?]
end
end Go.Proofs.Ytgeoffpcmkofkaa
/- The corner behind a corner is one alone. (Pure.) -/
namespace Go.Proofs.Ytgeoffpcmkofkaa
section
variable {α : Type} {D : α → α → α → Int} {K : α → Int} {Seen : α → Prop}
/-- From x towards k all lie to the left, none straight behind x. -/
structure Towards (D : α → α → α → Int) (K : α → Int) (Seen : α → Prop) (x k : α) : Prop where
  left : ∀ j, Seen j → 0 ≤ D x k j
  ahead : K x < K k → ∀ j, Seen j → D x k j = 0 → ¬K j < K x
  backward : K k < K x → ∀ j, Seen j → D x k j = 0 → ¬K x < K j
  apart : K x ≠ K k
theorem no_between (hP : Pl D K) (hA : Aff D K) {x k a b : α} (h : Towards D K Seen x k) (ha : Seen a) (hb : Seen b) (k1 : K a < K x) (k2 : K x < K b) (hz : D a b x = 0) : False := by
  have e := hA x k a b x
  rw [hP.same, hz] at e
  have fa := h.left a ha
  have fb := h.left b hb
  have a1 := Int.mul_nonneg fa (show 0 ≤ K b - K x by omega)
  have a2 := Int.mul_nonneg fb (show 0 ≤ K x - K a by omega)
  have z1 : D x k a = 0 := by
    rcases Int.lt_or_le 0 (D x k a) with hpos | hneg
    · have := Int.mul_pos hpos (show 0 < K b - K x by omega)
      omega
    · omega
  have z2 : D x k b = 0 := by
    rcases Int.lt_or_le 0 (D x k b) with hpos | hneg
    · have := Int.mul_pos hpos (show 0 < K x - K a by omega)
      omega
    · omega
  rcases Int.lt_or_le (K x) (K k) with hk | hk
  · exact h.ahead hk a ha z1 k1
  · exact h.backward (by have := h.apart; omega) b hb z2 k2
/-- Two corners that both have all at their left, seen from a third, are one. -/
theorem next_one (hP : Pl D K) (hA : Aff D K) {x k k' e e' : α} (hx : Seen x) (hk : Seen k) (hk' : Seen k') (ht : Towards D K Seen x k) (hc : Towards D K Seen k e) (hc' : Towards D K Seen k' e') (h' : 0 ≤ D x k' k) (ne : K k' ≠ K x) : K k' = K k := by
  have h1 := ht.left k' hk'
  have r1 := hP.swp x k k'
  have r2 := hP.rot k x k'
  have hz : D x k k' = 0 := by
    have := hP.rot k' k x
    have := hP.rot x k' k
    have := hP.rot k x k'
    omega
  have hz' : D x k' k = 0 := by
    have := hP.rot k' k x
    have := hP.rot x k' k
    have := hP.swp k' k x
    have := hP.rot x k k'
    omega
  have hs : D k x k' = 0 := by have := hP.swp x k k'; omega
  have hs' : D k' x k = 0 := by have := hP.swp x k' k; omega
  rcases Int.lt_or_le (K x) (K k) with hk1 | hk1
  · have b1 := ht.ahead hk1 k' hk' hz
    rcases Int.lt_trichotomy (K k') (K k) with hq | hq | hq
    · exact (no_between hP hA hc' hx hk (by omega) hq (by have := hP.rot x k k'; omega)).elim
    · exact hq
    · exact (no_between hP hA hc hx hk' hk1 hq hz').elim
  · have hk2 : K k < K x := by have := ht.apart; omega
    have b1 := ht.backward hk2 k' hk' hz
    rcases Int.lt_trichotomy (K k') (K k) with hq | hq | hq
    · exact (no_between hP hA hc hk' hx hq hk2 hs').elim
    · exact hq
    · exact (no_between hP hA hc' hk hx hq (by omega) hs).elim
end
end Go.Proofs.Ytgeoffpcmkofkaa
/- The plane of the program's points, and the list of points in their order. -/
namespace Go.Proofs.Ytgeoffpcmkofkaa
open Go Go.RowKit Fl

theorem plDK : Pl D K where
  rot a b c := by simp only [D, det]; grind
  swp a b c := by simp only [D, det]; grind
  pl s t p x := by simp only [D, det, K]; grind
theorem affDK : Aff D K := fun u v a b x => by simp only [D, det, K]; grind

/-- The points of a list in their order, each once. -/
def disL (l : Pts) : Pts := ddN (l.mergeSort fun x y => decide (K x ≤ K y)) l.length
theorem disL_is {l : Pts} (hc : ∀ x ∈ l, CdP x) : IsDis l (disL l) := by
  have hp : (l.mergeSort fun x y => decide (K x ≤ K y)).Perm l := List.mergeSort_perm l _
  have hs : (l.mergeSort fun x y => decide (K x ≤ K y)).Pairwise fun x y => K x ≤ K y := by
    have := List.pairwise_mergeSort (le := fun x y => decide (K x ≤ K y)) (fun a b c h1 h2 => by simp at *; omega) (fun a b => by simp; omega) l
    exact this.imp fun h => by simpa using h
  have hl := hp.length_eq
  have h := ddN_dis hs (fun x hx y hy hk => K_inj (hc x (hp.mem_iff.1 hx)) (hc y (hp.mem_iff.1 hy)) hk) l.length (by omega)
  refine ⟨h.1, fun x => ?_, ddN_le _ _⟩
  unfold disL
  rw [h.2, List.take_of_length_le (by omega)]
  exact hp.mem_iff
end Go.Proofs.Ytgeoffpcmkofkaa
