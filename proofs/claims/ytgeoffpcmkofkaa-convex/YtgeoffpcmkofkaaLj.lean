/- The one that starts them: it starts them. -/
import Derived.Test.YtgeoffpcmkofkaaLi
namespace Go.Proofs.Ytgeoffpcmkofkaa
open Go Go.Conc Go.RowKit
set_option maxRecDepth 100000

noncomputable def body71a : Code := match Try.f71.body with
  | some (.seq _ (.seq _ (.seq (.seq _ (.block _ (.loop b))) _))) => b
  | _ => .skip
noncomputable def rest71 : Code := match Try.f71.body with
  | some (.seq _ (.seq _ (.seq _ t))) => t
  | _ => .skip
theorem Try.info108 : (Try.prog.info? 108).map (fun i => (i.zero, i.size, i.bytes)) = some (some (.chan none), 1, 8) := by kernel_rfl
section
variable {P : Program} {S : Nat → Prop} {O : Nat → Prop} {w : World} {b : Frame} {a : Act} {ops : Array Oper} {i : Nat} {rest : List Nat} {o : Oper} {k : List Item} {cs : List Frame} {Fin : Goroutine → World → Prop} {E : Nat → Option (List Value)}
/-- A channel is made. -/
theorem MB.chn (ho : ops[i]? = some o) (hw : Region.wanted o (yielded ops a.tmps) = true) (hk : b.kind ≠ .early) (hr : ∀ w2, (execOp a.eval o).run P w2 = .ok (.value (.chan (some w2.heap.size))) (w2.alloc (.chan 0 #[] false 0 0 false))) (he : ∀ w2, (execOp a.eval o).events P w2 #[] = #[])
    (h : ∀ w2, Keeps O S w w2 → MB P S Fin E (some w2.heap.size) O (G (b.at (a.put o.dst (.chan (some w2.heap.size))) (.inRegion ops rest :: k)) cs) (w2.alloc (.chan 0 #[] false 0 0 false))) : MB P S Fin E none O (G (b.at a (.inRegion ops (i :: rest) :: k)) cs) w := by
  have key : ∀ w2, stepG P true (G (b.at a (.inRegion ops (i :: rest) :: k)) cs) w2 = .go (G (b.at (a.put o.dst (.chan (some w2.heap.size))) (.inRegion ops rest :: k)) cs) (w2.alloc (.chan 0 #[] false 0 0 false)) #[] := by
    intro w2
    rw [stepG_value ho hw hk (hr w2)]
    unfold listed
    rw [he w2, seen_none]
  refine .make (tm := false) rfl (fun w2 _ => ⟨_, key w2, rfl⟩) fun w2 a1 w1 es k2 hs => ?_
  rw [key w2] at hs
  injection hs with e1 e2 _
  subst e1 e2
  exact h w2 k2
/-- One is started. -/
theorem MB.spw {d : Deferred} {c : Nat} {outs : List Value} {f : Fn} {cc : Array Value} (ho : ops[i]? = some o) (hw : Region.wanted o (yielded ops a.tmps) = true) (hk : b.kind ≠ .early) (hr : ∀ w2, (execOp a.eval o).run P w2 = .ok (.spawn d) w2) (he : ∀ w2, (execOp a.eval o).events P w2 #[] = #[]) (hd : d.target = .fn f cc)
    (hkid : ∀ w2, Keeps O S w w2 → KT P S c outs (fun _ => False) (born P d) w2) (h : MB P S Fin (put E c (some outs)) none O (G (b.at (a.put o.dst undef) (.inRegion ops rest :: k)) cs) w) : MB P S Fin E (some c) O (G (b.at a (.inRegion ops (i :: rest) :: k)) cs) w := by
  refine .spawn (a1 := G (b.at (a.put o.dst undef) (.inRegion ops rest :: k)) cs) rfl rfl (fun w2 _ => ?_) hkid h
  rw [stepG_spawn ho hw hk (hr w2) hd]
  unfold listed
  rw [he w2, seen_none]
end
theorem M1.same {N : Nat} {ws w : World} {O : Nat → Prop} {pv av : Value} {cl : List Nat} {acc : Pts} (h : M1 N ws O w pv cl av acc) (ob : Obj) : M1 N ws O (w.alloc ob) pv cl av acc := by
  have := h.alloc ob
  exact ⟨⟨h.m0.above, this.m0.old, this.m0.size, this.m0.os, this.m0.output⟩, this.p, h.po, this.a, h.ao, h.ne, this.ai⟩
set_option maxHeartbeats 1000000 in
theorem start71 {N : Nat} {ws : World} {Fin : Goroutine → World → Prop} {cs : List Frame} {pcv : Value} {outs : Nat → Pts} {parts : Nat → Value} {x0 x1 x4 x7 x8 x9 x10 x11 x26 x27 x28 x29 x30 x31 x32 x33 x34 x35 x36 x37 x38 x39 x40 x41 : Value} {m : Nat} (hm : m ≤ 1000) (hlen : (cat outs m).length ≤ 10000)
    (hpc : 0 < m → ∃ pc cap, pcv = .slice (some ⟨pc, 0, none⟩) m cap ∧ pc < N ∧ ∀ i, i < m → ws.cell? ⟨pc, i, none⟩ = some (parts i)) (hsl : ∀ i, i < m → ∃ x l c, parts i = .slice x l c)
    (hkid : ∀ i, i < m → ∀ c w2, (∀ r, r < N → w2.heap[r]? = ws.heap[r]?) → N ≤ w2.heap.size → KT Try.prog (· < N) c ((outs i).map ptV) (fun _ => False) (born Try.prog (dcall 91 #[parts i, .chan (some c)])) w2)
    (hFin : ∀ (O : Nat → Prop) (w : World) (pv : Value) (cl : List Nat) (av : Value) (tmps : Array Value) (todo : List Item), M1 N ws O w pv cl av (cat outs m) → tmps.getD 2 undef = av → Fin (G { (base 71).at { tmps := tmps, defers := [] } todo with mode := .returning } cs) w) :
    ∀ (d j : Nat), j + d = m → ∀ (O : Nat → Prop) (w : World) (E : Nat → Option (List Value)) (cl : List Nat) (pv x5 x6 x15 x16 x17 x18 x19 x20 x21 x22 x23 x24 x25 : Value), cl.length = j → M1 N ws O w pv cl (.slice none 0 0) [] → ERs E cl outs 0 → (∀ (i c : Nat), cl[i]? = some c → c < w.heap.size) →
      MB Try.prog (· < N) Fin E none O (G ((base 71).at { tmps := #[x0, x1, .slice none 0 0, pv, x4, x5, x6, x7, x8, x9, x10, x11, pcv, .int .i64 (m : Nat), .int .i64 (j : Nat), x15, x16, x17, x18, x19, x20, x21, x22, x23, x24, x25, x26, x27, x28, x29, x30, x31, x32, x33, x34, x35, x36, x37, x38, x39, x40, x41], defers := [] } [.code body71a, .inLoop body71a, .inBlock 0, .code rest71]) cs) w := by
  intro d
  induction d with
  | zero =>
    intro j hj O w E cl pv x5 x6 x15 x16 x17 x18 x19 x20 x21 x22 x23 x24 x25 hcl hM hE hlow
    have hj : j = m := by omega
    subst hj
    simp only [body71a, Try.f71]
    refine .ctl rfl rfl (fun _ => stepG_seq) ?_
    refine .ctl rfl rfl (fun _ => stepG_region) ?_
    walk_nrm
    refine .val (.bool false) rfl rfl (by decide) (fun w2 _ => by go_simp) (fun w2 _ => by simp [go_sem]) ?_
    walk_nrm
    refine .ctl rfl rfl (fun _ => stepG_region_end) ?_
    refine .ctl rfl rfl (fun _ => stepG_seq) ?_
    refine .ctl rfl rfl (fun _ => stepG_cond (t := false) rfl) ?_
    refine .ctl rfl rfl (fun _ => stepG_exit (k' := [.code rest71]) rfl) ?_
    simp only [rest71, Try.f71]
    refine .ctl rfl rfl (fun _ => stepG_seq) ?_
    refine .ctl rfl rfl (fun _ => stepG_region) ?_
    walk_nrm
    refine .mov (.slice none 0 0) rfl rfl (.inr rfl) rfl (by decide) ?_
    walk_nrm
    refine .ctl rfl rfl (fun _ => stepG_region_end) ?_
    refine .ctl rfl rfl (fun _ => stepG_seq) ?_
    refine .ctl rfl rfl (fun _ => stepG_seq) ?_
    refine .ctl rfl rfl (fun _ => stepG_region) ?_
    walk_nrm
    refine .mov pv rfl rfl (.inl rfl) rfl (by decide) ?_
    walk_nrm
    have hpv : ∃ b cap, pv = .slice b j cap := by
      rcases hM.p.2 with ⟨e, e2⟩ | ⟨g, cap, cur, e1, _⟩
      · exact ⟨none, 0, by rw [e, ← hcl, e2]⟩
      · exact ⟨_, cap, by rw [e1, hcl]⟩
    refine .val (.int .i64 (j : Nat)) rfl rfl (by decide) (fun w2 _ => ?_) (fun w2 _ => ?_) ?_
    · obtain ⟨b, cap, rfl⟩ := hpv
      go_simp
    · obtain ⟨b, cap, rfl⟩ := hpv
      simp [go_sem]
    walk_nrm
    refine .mov (.int .i64 0) rfl rfl (.inl rfl) rfl (by decide) ?_
    walk_nrm
    refine .ctl rfl rfl (fun _ => stepG_region_end) ?_
    refine .ctl rfl rfl (fun _ => stepG_block) ?_
    refine .ctl rfl rfl (fun _ => stepG_loop) ?_
    exact all71 hm hcl hlen (fun O w av tmps todo h1 h2 => hFin O w pv cl av tmps todo h1 h2) j 0 (by omega) O w E _ _ _ _ _ _ _ _ _ _ _ _ _ _ _ hM hE
  | succ d ih =>
    intro j hj O w E cl pv x5 x6 x15 x16 x17 x18 x19 x20 x21 x22 x23 x24 x25 hcl hM hE hlow
    have hjm : j < m := by omega
    obtain ⟨pc, cap, rfl, hpcN, hcells⟩ := hpc (by omega)
    simp only [body71a, Try.f71]
    refine .ctl rfl rfl (fun _ => stepG_seq) ?_
    refine .ctl rfl rfl (fun _ => stepG_region) ?_
    walk_nrm
    refine .val (.bool true) rfl rfl (by decide) (fun w2 _ => by go_simp) (fun w2 _ => by simp [go_sem]) ?_
    walk_nrm
    refine .ctl rfl rfl (fun _ => stepG_region_end) ?_
    refine .ctl rfl rfl (fun _ => stepG_seq) ?_
    refine .ctl rfl rfl (fun _ => stepG_cond (t := true) rfl) ?_
    refine .ctl rfl rfl (fun _ => stepG_skip) ?_
    refine .ctl rfl rfl (fun _ => stepG_seq) ?_
    refine .ctl rfl rfl (fun _ => stepG_block) ?_
    refine .ctl rfl rfl (fun _ => stepG_seq) ?_
    refine .ctl rfl rfl (fun _ => stepG_region) ?_
    walk_nrm
    have hcell : w.cell? ⟨pc, j, none⟩ = some (parts j) := by
      rw [← hcells j hjm]
      unfold World.cell?
      rw [hM.m0.old pc hpcN]
    obtain ⟨sx, sl, sc, hsx⟩ := hsl j hjm
    refine .val (.pointer (some ⟨pc, j, none⟩)) rfl rfl (by decide) (fun w2 _ => by go_simp) (fun w2 _ => by simp [go_sem, events_indexAt_slice 106 _ _ _ _ _ elem106 (show (0 : Int) ≤ j ∧ (j : Int) < m by omega)]) ?_
    walk_nrm
    refine .val (parts j) rfl rfl (by decide) (fun w2 k2 => ?_) (fun w2 k2 => ?_) ?_
    · have h1 := k2.cell (ad := ⟨pc, j, none⟩) (.inr hpcN)
      rw [hcell] at h1
      rw [hsx] at h1 ⊢
      go_simp
    · have h1 := k2.cell (ad := ⟨pc, j, none⟩) (.inr hpcN)
      rw [hcell] at h1
      rw [hsx] at h1
      intro e he
      simp [go_sem, h1] at he
      subst he
      exact .inl ⟨_, rfl, .inr ⟨hpcN, rfl⟩⟩
    walk_nrm
    refine .mov (parts j) rfl rfl (.inr rfl) rfl (by decide) ?_
    walk_nrm
    refine .ctl rfl rfl (fun _ => stepG_region_end) ?_
    refine .ctl rfl rfl (fun _ => stepG_seq) ?_
    refine .ctl rfl rfl (fun _ => stepG_region) ?_
    walk_nrm
    obtain ⟨i23, hi23, hz23, hs23, hb23⟩ := Try.info23'
    refine .chn rfl rfl (by decide) (fun w2 => ?_) (fun w2 => ?_) fun w2 k2 => ?_
    · have : (Instr.makeChan 108 (.int .i64 0)).run Try.prog w2 = .ok (.chan (some w2.heap.size)) (w2.alloc (.chan 0 #[] false 0 0 false)) := run_makeChan (P := Try.prog) (w := w2) Try.underlying108 hi23 .i64 0 (by omega) (by rw [hb23]; omega)
      simp [go_sem, this]
    · have : (Instr.makeChan 108 (.int .i64 0)).events Try.prog w2 #[] = #[] := events_makeChan (P := Try.prog) (w := w2) Try.underlying108 hi23 .i64 0 (by omega) (by rw [hb23]; omega) #[]
      simp [go_sem, this]
    walk_nrm
    obtain ⟨c, hc⟩ : ∃ c, w2.heap.size = c := ⟨_, rfl⟩
    have hcnew : ∀ (i c' : Nat), cl[i]? = some c' → c' < c := fun i c' h => by have := hlow i c' h; have := k2.size; omega
    replace hM := (hM.keeps k2).same (.chan 0 #[] false 0 0 false)
    have hsz : c < (w2.alloc (.chan 0 #[] false 0 0 false)).heap.size := by rw [alloc_heap, Array.size_push]; omega
    rw [hc]
    generalize w2.alloc (.chan 0 #[] false 0 0 false) = w3 at hM hsz ⊢
    refine .mov (.chan (some c)) rfl rfl (.inr rfl) rfl (by decide) ?_
    walk_nrm
    refine .ctl rfl rfl (fun _ => stepG_region_end) ?_
    refine .ctl rfl rfl (fun _ => stepG_seq) ?_
    refine .ctl rfl rfl (fun _ => stepG_region) ?_
    walk_nrm
    refine .mov (parts j) rfl rfl (.inl rfl) rfl (by decide) ?_
    walk_nrm
    refine .mov (.chan (some c)) rfl rfl (.inl rfl) rfl (by decide) ?_
    walk_nrm
    refine .spw (d := dcall 91 #[parts j, .chan (some c)]) (outs := (outs j).map ptV) rfl rfl (by decide) (fun w4 => by simp [go_sem, dcall]) (fun w4 => by simp [go_sem]) rfl (fun w4 k4 => hkid j hjm c w4 (hM.m0.keeps k4).old (hM.m0.keeps k4).size) ?_
    walk_nrm
    refine .ctl rfl rfl (fun _ => stepG_region_end) ?_
    refine .ctl rfl rfl (fun _ => stepG_region) ?_
    walk_nrm
    refine .mov pv rfl rfl (.inl rfl) rfl (by decide) ?_
    walk_nrm
    refine .mov (.chan (some c)) rfl rfl (.inl rfl) rfl (by decide) ?_
    walk_nrm
    refine .newB (.cells #[.chan (some c)] 108) (fun n => .slice (some ⟨n, 0, none⟩) 1 1) rfl rfl (by decide) (fun w2 _ => by go_simp) (fun w2 _ => by simp [go_sem]) fun w6 k6 => ?_
    walk_nrm
    replace hM := (hM.keeps k6).alloc (.cells #[.chan (some c)] 108)
    obtain ⟨n', hn'⟩ : ∃ n, w6.heap.size = n := ⟨_, rfl⟩
    have hO6 : own O w6 (w6.alloc (.cells #[.chan (some c)] 108)) n' := .inr ⟨by omega, by rw [alloc_heap, Array.size_push]; omega⟩
    have hcell6 : (w6.alloc (.cells #[.chan (some c)] 108)).heap[n']? = some (.cells #[.chan (some c)] 108 (0, 0)) := by
      rw [alloc_heap, ← hn']
      exact Array.getElem?_push_size
    have hsz6 : c < (w6.alloc (.cells #[.chan (some c)] 108)).heap.size := by rw [alloc_heap, Array.size_push]; have := k6.size; omega
    rw [hn']
    generalize own O w6 (w6.alloc (.cells #[.chan (some c)] 108)) = O6 at hO6 hM ⊢
    generalize w6.alloc (.cells #[.chan (some c)] 108) = w7 at hcell6 hM hsz6 ⊢
    obtain ⟨i0, hi0, hz0, hz1, hz2⟩ := info_parts Try.info108
    refine .app (N := N) (news := [.chan (some c)]) (.tmp 21) (.tmp 23) rfl rfl (by decide) rfl rfl rfl Try.underlying105 hi0 hz0 hz1 hz2 rfl (by omega) hM.p hM.po hO6 rfl ?_ ?_ ?_ ?_ hM.m0.size (by omega) (Ip := fun _ => True) (fun _ _ _ _ _ _ _ _ => trivial) (fun _ _ => trivial) (fun _ _ => trivial) fun w8 v' w9 k8 r1 r2 r3 r4 r5 _ => ?_
    · intro i u hi
      match i, hi with
      | 0, hi => simp at hi; subst hi; simp [World.cell?, Addr.add_lit, hcell6]
      | i + 1, hi => simp at hi
    · intro u hu
      simp at hu
      subst hu
      rfl
    · simp only [maxLen]; omega
    · omega
    walk_nrm
    have hM9 : M1 N ws (own O6 w8 w9) w9 v' (cl ++ [c]) (.slice none 0 0) [] := by
      refine ⟨hM.m0.step k8 r3, ?_, r2, ⟨rfl, .inl ⟨rfl, rfl⟩⟩, (fun g hg => by cases hg), (fun g _ e => by cases e), (fun g hg => by cases hg)⟩
      rw [List.length_append, List.map_append]
      exact r1
    refine .mov v' rfl rfl (.inr rfl) rfl (by decide) ?_
    walk_nrm
    refine .ctl rfl rfl (fun _ => stepG_region_end) ?_
    refine .ctl rfl rfl (fun _ => stepG_inBlock) ?_
    refine .ctl rfl rfl (fun _ => stepG_region) ?_
    walk_nrm
    refine .val (.int .i64 ((j + 1 : Nat) : Int)) rfl rfl (by decide) (fun w2 _ => by go_simp; rw [IntKind.wrap_i64]; omega) (fun w2 _ => by simp [go_sem]) ?_
    walk_nrm
    refine .mov (.int .i64 ((j + 1 : Nat) : Int)) rfl rfl (.inl rfl) rfl (by decide) ?_
    walk_nrm
    refine .ctl rfl rfl (fun _ => stepG_region_end) ?_
    refine .ctl rfl rfl (fun _ => stepG_inLoop) ?_
    have hget : ∀ (i c' : Nat), (cl ++ [c])[i]? = some c' → cl[i]? = some c' ∨ (i = j ∧ c' = c) := by
      intro i c' h
      rcases Nat.lt_or_ge i cl.length with hi | hi
      · rw [List.getElem?_append_left hi] at h; exact .inl h
      · rw [List.getElem?_append_right hi] at h
        have : i - cl.length = 0 := by
          rcases Nat.eq_zero_or_pos (i - cl.length) with e | e
          · exact e
          · rw [List.getElem?_eq_none (by simp; omega)] at h; cases h
        rw [this] at h
        simp only [List.getElem?_cons_zero, Option.some.injEq] at h
        exact .inr ⟨by omega, h.symm⟩
    have hnew : (cl ++ [c])[j]? = some c := by rw [List.getElem?_append_right (by omega)]; simp [hcl]
    refine ih (j + 1) (by omega) _ w9 _ (cl ++ [c]) v' _ _ _ _ _ _ _ _ _ _ _ _ _ (by simp [hcl]) hM9 ⟨fun i d _ hd => ?_, fun d o hd => ?_, fun i i' d h1 h2 => ?_⟩ fun i d hd => ?_
    · rcases hget i d hd with h | ⟨rfl, rfl⟩
      · rw [put_ne _ _ (by have := hcnew i d h; omega)]
        exact hE.there i d (Nat.zero_le _) h
      · exact put_same _ _ _
    · by_cases e : d = c
      · exact ⟨j, Nat.zero_le _, by rw [e]; exact hnew⟩
      · rw [put_ne _ _ e] at hd
        obtain ⟨i, q1, q2⟩ := hE.only d o hd
        exact ⟨i, q1, by rw [List.getElem?_append_left (List.getElem?_eq_some_iff.1 q2).1]; exact q2⟩
    · rcases hget i d h1 with h | ⟨rfl, rfl⟩ <;> rcases hget i' d h2 with h' | ⟨rfl, h'⟩
      · exact hE.once i i' d h h'
      · have := hcnew i d h; omega
      · have := hcnew i' d h'; omega
      · rfl
    · have hsz9 : w7.heap.size ≤ w9.heap.size := Nat.le_trans k8.size r3.size
      rcases hget i d hd with h | ⟨_, rfl⟩
      · have := hcnew i d h; omega
      · omega
end Go.Proofs.Ytgeoffpcmkofkaa
