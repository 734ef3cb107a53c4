/- Lg; Lh; Li; Lj; Mi; Mj; Ml: texts laid into one. -/
import Derived.Test.YtgeoffpcmkofkaaRba
import Derived.Maps.AppendAt
import Derived.Conc.AppendWalk
import Derived.Conc.SmallLaws
import Derived.Test.YtgeoffpcmkofkaaRaz
/- The one that starts them: steps of its own. -/
namespace Go.Proofs.Ytgeoffpcmkofkaa
open Go Go.Conc Go.RowKit
set_option maxRecDepth 100000

theorem add_blk (a : Addr) (n : Nat) : (a.add n).block = a.block := by unfold Addr.add; split <;> rfl
section
variable {P : Program} {S : Nat → Prop} {O : Nat → Prop} {w : World} {b : Frame} {a : Act} {ops : Array Oper} {i : Nat} {rest : List Nat} {o : Oper} {k : List Item} {cs : List Frame} {Fin : Goroutine → World → Prop} {E : Nat → Option (List Value)} {R : Option Nat}
theorem MB.val (v : Value) (ho : ops[i]? = some o) (hw : Region.wanted o (yielded ops a.tmps) = true) (hk : b.kind ≠ .early) (hr : ∀ w2, Keeps O S w w2 → (execOp a.eval o).run P w2 = .ok (.value v) w2) (he : ∀ w2, Keeps O S w w2 → ∀ e ∈ (execOp a.eval o).events P w2 #[], EvW O S e)
    (h : MB P S Fin E R O (G (b.at (a.put o.dst v) (.inRegion ops rest :: k)) cs) w) : MB P S Fin E R O (G (b.at a (.inRegion ops (i :: rest) :: k)) cs) w :=
  .look rfl rfl (fun w2 k2 => ⟨_, stepG_value ho hw hk (hr w2 k2), fun e hh => he w2 k2 e (mem_listed hh)⟩) h
theorem MB.mov {x : Operand} (v : Value) (ho : ops[i]? = some o) (hw : Region.wanted o (yielded ops a.tmps) = true) (hop : o.op = .move x ∨ o.op = .assign x) (hv : a.eval x = v) (hk : b.kind ≠ .early)
    (h : MB P S Fin E R O (G (b.at (a.put o.dst v) (.inRegion ops rest :: k)) cs) w) : MB P S Fin E R O (G (b.at a (.inRegion ops (i :: rest) :: k)) cs) w := by
  refine .val v ho hw hk (fun w2 _ => ?_) (fun w2 _ => ?_) h
  · rcases hop with e | e <;> (unfold execOp; simp [e, hv])
  · rcases hop with e | e <;> (unfold execOp; simp [e])
/-- Something new is laid down. -/
theorem MB.newB (ob : Obj) (v : Nat → Value) (ho : ops[i]? = some o) (hw : Region.wanted o (yielded ops a.tmps) = true) (hk : b.kind ≠ .early) (hr : ∀ w2, Keeps O S w w2 → (execOp a.eval o).run P w2 = .ok (.value (v w2.heap.size)) (w2.alloc ob)) (he : ∀ w2, Keeps O S w w2 → (execOp a.eval o).events P w2 #[] = #[])
    (h : ∀ w2, Keeps O S w w2 → MB P S Fin E R (Ytgeoffpcmkofkaa.own O w2 (w2.alloc ob)) (G (b.at (a.put o.dst (v w2.heap.size)) (.inRegion ops rest :: k)) cs) (w2.alloc ob)) : MB P S Fin E R O (G (b.at a (.inRegion ops (i :: rest) :: k)) cs) w :=
  .go1 rfl fun w2 k2 => ⟨_, _, _, stepG_value ho hw hk (hr w2 k2), rfl, did_alloc ob, fun e hh => by
    have := mem_listed hh
    rw [he w2 k2] at this
    simp at this, h w2 k2⟩
theorem owns_keeps {w2 : World} {N e size n : Nat} {v : Value} {xs : List Value} (h : w.ownsRow N e size v n xs) (hO : ∀ g, v.ownBlock = some g → O g) (k : Keeps O S w w2) : w2.ownsRow N e size v n xs := by
  refine ⟨h.1, h.2.imp id fun ⟨g, cap, cur, h1, h2, h3, h4⟩ => ⟨g, cap, cur, h1, h2, ?_, h4⟩⟩
  rw [k.block g (.inl (hO g (by rw [h1]; rfl)))]
  exact h3
/-- All cells of the row are of a kind. -/
def AllRow (Ip : Value → Prop) (w : World) (v : Value) : Prop := ∀ g, v.ownBlock = some g → ∀ c e f, w.heap[g]? = some (.cells c e f) → ∀ x ∈ c.toList, Ip x
theorem append_all {Ip : Value → Prop} {t ty e size bytes N n m c : Nat} {i : TypeInfo} {z v v' : Value} {xs news : List Value} {a : Addr} {w w' : World}
    (ht : P.underlying t = some (.slice e)) (hi : P.info? e = some i) (hz : i.zero = some z) (hsize : i.size = size) (hby : i.bytes = bytes) (hown : w.ownsRow N e size v n xs) (hl : news.length = m * size) (hnews : ∀ j u, news[j]? = some u → w.cell? (a.add j) = some u) (h1 : ∀ u ∈ news, u.oneCell' = true)
    (h63 : n + m ≤ maxLen) (hbytes : (n + m) * bytes ≤ 140737488355328) (hm : m ≠ 0) (hall : AllRow Ip w v) (hzI : ∀ x ∈ z.cells.toList, Ip x) (hnI : ∀ x ∈ news, Ip x) (h : (Builtin.append_ #[t, t] ty #[v, .slice (some a) m c]).run P w = .ok v' w') : AllRow Ip w' v' := by
  subst hsize
  subst hby
  have hsmall : n + m ≤ 9223372036854775807 := by simp only [maxLen] at h63; omega
  have zc : ∀ k x, x ∈ (Builtin.zeroCells z.cells k).toList → Ip x := by
    intro k x hx
    unfold Builtin.zeroCells at hx
    simp only [Array.toList_map, List.mem_map, Array.mem_toList_iff, Array.mem_range] at hx
    obtain ⟨j, hj, rfl⟩ := hx
    have hpos : 0 < z.cells.size := by
      rcases Nat.eq_zero_or_pos z.cells.size with e | e
      · rw [e] at hj; omega
      · exact e
    have hlt := Nat.mod_lt j hpos
    rw [getElem!_pos z.cells (j % z.cells.size) hlt]
    exact hzI _ (by simp)
  have fresh : ∀ (u : World) (cs : Array Value) (vv : Nat → Value), (∀ x ∈ cs.toList, Ip x) → (∀ k, (vv k).ownBlock = some k) → AllRow Ip (u.alloc (.cells cs e)) (vv u.heap.size) := by
    intro u cs vv hcs hv g hg c' e' f' hc
    rw [hv] at hg
    injection hg with hg
    subst hg
    rw [alloc_heap, Array.getElem?_push_size] at hc
    injection hc with hc
    injection hc with hc _ _
    subst hc
    exact hcs
  rcases hown.2 with ⟨rfl, rfl⟩ | ⟨g, cap, cur, rfl, hbg, hg, hnc, hcm, hcs, htake⟩
  · have hr := run_append_nil (P := P) w t ty e i z ht hi hz a m c news hl hnews (by omega) (by omega) (by have hb := hbytes; simp only [Nat.zero_add] at hb; omega)
    rw [hr] at h
    injection h with h2 h3
    subst h2 h3
    refine fresh w.drew _ (fun k => .slice (some ⟨k, 0, none⟩) m _) (fun x hx => ?_) fun _ => rfl
    simp only [Array.toList_append, List.mem_append] at hx
    rcases hx with hx | hx
    · exact hnI x (by simpa using hx)
    · exact zc _ x hx
  · have hcur := hall g rfl cur e (0, 0) hg
    by_cases hroom : n + m ≤ cap
    · have hfit : n * i.size + news.length ≤ cur.size := by rw [hl, hcs, ← Nat.add_mul]; exact Nat.mul_le_mul_right _ hroom
      have hr := run_append_room (P := P) w t ty e i ht hi g n cap cur hg a m c news hl hnews h1 hroom hfit
      rw [hr] at h
      injection h with h2 h3
      subst h2 h3
      intro g' hg' c' e' f' hc x hx
      injection hg' with hg'
      simp only at hg'
      subst hg'
      rw [setRow_heap w g cur _ e _ hg] at hc
      injection hc with hc
      injection hc with hc _ _
      subst hc
      simp only [List.mem_append] at hx
      rcases hx with (hx | hx) | hx
      · exact hcur x (List.mem_of_mem_take hx)
      · exact hnI x hx
      · exact hcur x (List.mem_of_mem_drop hx)
    · have holds : ∀ j u, xs[j]? = some u → w.cell? ((⟨g, 0, none⟩ : Addr).add j) = some u := hown.cells (g := g) rfl
      have hr := run_append_grow (P := P) w t ty e i z ht hi hz ⟨g, 0, none⟩ n cap xs hown.1 holds a m c news hl hnews (by omega) (by omega) (growslice_fits (by omega) hbytes)
      rw [hr] at h
      injection h with h2 h3
      subst h2 h3
      refine fresh w.drew _ (fun k => .slice (some ⟨k, 0, none⟩) (n + m) _) (fun x hx => ?_) fun _ => rfl
      simp only [Array.toList_append, List.mem_append] at hx
      rcases hx with (hx | hx) | hx
      · exact hcur x (by rw [← htake] at hx; exact List.mem_of_mem_take (by simpa using hx))
      · exact hnI x (by simpa using hx)
      · exact zc _ x hx
theorem MB.app {Ip : Value → Prop} {t e size bytes N n m c : Nat} {inf : TypeInfo} {z v : Value} {xs news : List Value} {ad : Addr} (s x : Operand) (ho : ops[i]? = some o) (hw : Region.wanted o (yielded ops a.tmps) = true) (hk : b.kind ≠ .early)
    (hop : o.op = .call { callee := .builtin .append, args := #[s, x], argTypes := #[t, t] }) (hs : a.eval s = v) (hx : a.eval x = .slice (some ad) m c)
    (ht : P.underlying t = some (.slice e)) (hi : P.info? e = some inf) (hz : inf.zero = some z) (hsize : inf.size = size) (hby : inf.bytes = bytes) (hzs : z.cells.size = size) (hsz : 0 < size)
    (hown : w.ownsRow N e size v n xs) (hob : ∀ g, v.ownBlock = some g → O g) (had : O ad.block) (hl : news.length = m * size) (hnews : ∀ j u, news[j]? = some u → w.cell? (ad.add j) = some u) (h1 : ∀ u ∈ news, u.oneCell' = true)
    (h63 : n + m ≤ maxLen) (hbytes : (n + m) * bytes ≤ 140737488355328) (hbase : N ≤ w.heap.size) (hm : m ≠ 0) (hall : AllRow Ip w v) (hzI : ∀ x ∈ z.cells.toList, Ip x) (hnI : ∀ x ∈ news, Ip x)
    (h : ∀ w2 v' w', Keeps O S w w2 → w'.ownsRow N e size v' (n + m) (xs ++ news) → (∀ g, v'.ownBlock = some g → Ytgeoffpcmkofkaa.own O w2 w' g) → DidO O w2 w' → w2.grownBy w' v.ownBlock → (v'.ownBlock = v.ownBlock ∨ v'.ownBlock = some w2.heap.size) → AllRow Ip w' v' → MB P S Fin E R (Ytgeoffpcmkofkaa.own O w2 w') (G (b.at (a.put o.dst v') (.inRegion ops rest :: k)) cs) w') :
    MB P S Fin E R O (G (b.at a (.inRegion ops (i :: rest) :: k)) cs) w := by
  refine .go1 rfl fun w2 k2 => ?_
  have hown2 := owns_keeps hown hob k2
  have hnews2 : ∀ j u, news[j]? = some u → w2.cell? (ad.add j) = some u := fun j u hj => by
    rw [k2.cell (.inl (by rw [add_blk]; exact had))]
    exact hnews j u hj
  obtain ⟨v', w', k1, k3, k4, k5, k6⟩ := run_append_own_at (P := P) w2 N t o.type e inf z size bytes ht hi hz hsize hby hzs hsz v n xs hown2 ad m c news hl hnews2 h1 h63 hbytes (Nat.le_trans hbase k2.size)
  have hrun : (execOp a.eval o).run P w2 = .ok (.value v') w' := by
    unfold execOp
    simp only [hop, resolve, invoke, builtin, Sem.run_bind, Sem.run_pure, Result.andThen_ok, List.map_toArray, List.map_cons, List.map_nil, hs, hx, k1]
  have hev := events_append_op (P := P) (w := w2) s x t hop hs hx #[]
  have hwhere := events_append_where (P := P) w2 N t o.type e inf z size bytes ht hi hz hsize hby v n xs hown2 ad m c news hl hnews2 h1 h63 hbytes
  have hall2 : AllRow Ip w2 v := fun g hg c e f hc => hall g hg c e f (by rw [← k2.block g (.inl (hob g hg))]; exact hc)
  have hdid : DidO O w2 w' := ⟨k4.os, k4.tape, k4.output, k4.size, fun r hr hn => k4.block r hr fun e => hn (hob r e.symm)⟩
  refine ⟨_, w', _, stepG_value ho hw hk hrun, rfl, hdid, fun ev hh => ?_, h w2 v' w' k2 k3 (fun g hg => ?_) hdid k4 k6 (append_all ht hi hz hsize hby hown2 hl hnews2 h1 h63 hbytes hm hall2 hzI hnI k1)⟩
  · have := mem_listed hh
    rw [hev] at this
    rcases hwhere ev this with ⟨q, q1, q2⟩ | ⟨mk, q1, q2⟩
    · refine .inl ⟨q, q1, .inl (.inl ?_)⟩
      rcases q2 with ⟨_, q2⟩ | q2
      · rw [q2]; exact had
      · exact hob _ q2.symm
    · exact .inr (.inl ⟨mk, q1, .inl q2⟩)
  · rcases k6 with k6 | k6
    · exact .inl (hob g (by rw [← k6]; exact hg))
    · rw [k6] at hg
      injection hg with hg
      subst hg
      refine .inr ⟨Nat.le_refl _, ?_⟩
      rcases k3.2 with ⟨e, _⟩ | ⟨g, cap, cur, e, _, e3, _⟩
      · rw [e] at k6; cases k6
      · rw [e] at k6
        injection k6 with k6
        simp only at k6
        rw [← k6]
        exact (Array.getElem?_eq_some_iff.1 e3).1
end
end Go.Proofs.Ytgeoffpcmkofkaa
/- The one that starts them: it takes what one of them sends. -/
namespace Go.Proofs.Ytgeoffpcmkofkaa
open Go Go.Conc Go.RowKit
set_option maxRecDepth 100000

/-- Old memory is as it was; what is written is new. -/
structure M0 (N : Nat) (ws : World) (O : Nat → Prop) (w : World) : Prop where
  above : ∀ r, O r → N ≤ r
  old : ∀ r, r < N → w.heap[r]? = ws.heap[r]?
  size : N ≤ w.heap.size
  os : w.os = ws.os
  output : w.output = ws.output
theorem M0.step {N : Nat} {ws w w2 w1 : World} {O : Nat → Prop} (h : M0 N ws O w) (k : Keeps O (· < N) w w2) (d : DidO O w2 w1) : M0 N ws (own O w2 w1) w1 := by
  have hs := Nat.le_trans h.size k.size
  refine ⟨fun r hr => ?_, fun r hr => ?_, Nat.le_trans hs d.size, d.os.trans (k.os.trans h.os), d.output.trans (k.output.trans h.output)⟩
  · rcases hr with hr | hr
    · exact h.above r hr
    · omega
  · rw [d.kept r (by omega) fun ho => by have := h.above r ho; omega, k.block r (.inr hr)]
    exact h.old r hr
theorem M0.keeps {N : Nat} {ws w w2 : World} {O : Nat → Prop} (h : M0 N ws O w) (k : Keeps O (· < N) w w2) : M0 N ws O w2 := by
  have := h.step k (.refl _ _)
  rwa [own_same rfl] at this
def IsI (v : Value) : Prop := ∃ n, v = .int .i64 n
theorem AllRow.of {Ip : Value → Prop} {w w1 : World} {v : Value} (h : AllRow Ip w v) (k : ∀ g, v.ownBlock = some g → w1.heap[g]? = w.heap[g]?) : AllRow Ip w1 v := fun g hg c e f hc => h g hg c e f (by rw [← k g hg]; exact hc)
def chV (c : Nat) : Value := .chan (some c)
/-- .. and two rows of its own: channels, points. -/
structure M1 (N : Nat) (ws : World) (O : Nat → Prop) (w : World) (pv : Value) (cl : List Nat) (av : Value) (acc : Pts) : Prop where
  m0 : M0 N ws O w
  p : w.ownsRow N 108 1 pv cl.length (cl.map chV)
  po : ∀ g, pv.ownBlock = some g → O g
  a : w.ownsRow N 23 2 av acc.length (flatP acc)
  ao : ∀ g, av.ownBlock = some g → O g
  ne : ∀ g, pv.ownBlock = some g → av.ownBlock ≠ some g
  ai : AllRow IsI w av
section
variable {N : Nat} {ws w w2 w1 : World} {O : Nat → Prop} {pv av : Value} {cl : List Nat} {acc : Pts}
theorem row_lt {e size n : Nat} {v : Value} {xs : List Value} (h : w.ownsRow N e size v n xs) {g : Nat} (hg : v.ownBlock = some g) : g < w.heap.size := by
  rcases h.2 with ⟨rfl, _⟩ | ⟨g', cap, cur, rfl, _, h3, _⟩
  · cases hg
  · injection hg with hg
    simp only at hg
    rw [← hg]
    exact (Array.getElem?_eq_some_iff.1 h3).1
theorem row_of {e size n : Nat} {v : Value} {xs : List Value} (h : w.ownsRow N e size v n xs) (k : ∀ g, v.ownBlock = some g → w1.heap[g]? = w.heap[g]?) : w1.ownsRow N e size v n xs := by
  refine ⟨h.1, h.2.imp id fun ⟨g, cap, cur, h1, h2, h3, h4⟩ => ⟨g, cap, cur, h1, h2, ?_, h4⟩⟩
  rw [k g (by rw [h1]; rfl)]
  exact h3
theorem M1.keeps (h : M1 N ws O w pv cl av acc) (k : Keeps O (· < N) w w2) : M1 N ws O w2 pv cl av acc :=
  ⟨h.m0.keeps k, owns_keeps h.p h.po k, h.po, owns_keeps h.a h.ao k, h.ao, h.ne, h.ai.of fun g hg => k.block g (.inl (h.ao g hg))⟩
theorem M1.alloc (h : M1 N ws O w pv cl av acc) (ob : Obj) : M1 N ws (own O w (w.alloc ob)) (w.alloc ob) pv cl av acc :=
  ⟨h.m0.step (.refl _ _ _) (did_alloc ob), row_of h.p fun _ hg => alloc_ne ob (row_lt h.p hg), fun g hg => .inl (h.po g hg), row_of h.a fun _ hg => alloc_ne ob (row_lt h.a hg), fun g hg => .inl (h.ao g hg), h.ne, h.ai.of fun _ hg => alloc_ne ob (row_lt h.a hg)⟩
/-- Others are written. -/
theorem M1.other (h : M1 N ws O w pv cl av acc) (d : DidO O w w1) (hs : w1.heap.size = w.heap.size) (hp : ∀ g, pv.ownBlock = some g → w1.heap[g]? = w.heap[g]?) (ha : ∀ g, av.ownBlock = some g → w1.heap[g]? = w.heap[g]?) : M1 N ws O w1 pv cl av acc := by
  have := h.m0.step (.refl _ _ _) d
  rw [own_same hs] at this
  exact ⟨this, row_of h.p hp, h.po, row_of h.a ha, h.ao, h.ne, h.ai.of ha⟩
end
theorem Try.info23' : ∃ i, Try.prog.info? 23 = some i ∧ i.zero = some (.agg #[.int .i64 0, .int .i64 0]) ∧ i.size = 2 ∧ i.bytes = 16 := by
  obtain ⟨i0, h0, h1, h2, h3⟩ := info_parts Try.info23
  exact ⟨i0, h0, h1, h2, h3⟩
noncomputable def body71c : Code := match Try.f71.body with
  | some (.seq _ (.seq _ (.seq _ (.seq _ (.seq (.seq _ (.block _ (.loop (.seq _ (.seq _ (.seq (.block _ (.seq _ (.seq _ (.block _ (.loop b))))) _)))))) _))))) => b
  | _ => .skip
set_option maxHeartbeats 1000000 in
/-- What one of them sends is taken, one by one, till its channel is closed. -/
theorem take71 {N : Nat} {ws : World} {Fin : Goroutine → World → Prop} {cs : List Frame} {c : Nat} {pv : Value} {cl : List Nat} {nn jj : Int} {k : List Item} {x0 x1 x4 x5 x6 x8 x9 x11 x12 x13 x14 x15 x16 x17 x18 x19 x20 x21 x22 x23 x24 x25 x29 x30 x31 x40 x41 : Value} : ∀ (rem acc : Pts), acc.length + rem.length ≤ 100000 → ∀ (O : Nat → Prop) (w : World) (E : Nat → Option (List Value)) (av x10 x33 x34 x35 x36 x37 x38 x39 : Value), M1 N ws O w pv cl av acc → E c = some (rem.map ptV) →
    (∀ (O : Nat → Prop) (w : World) (E' : Nat → Option (List Value)) (av x10 x33 x34 x35 x36 x37 x38 x39 : Value), M1 N ws O w pv cl av (acc ++ rem) → E' c = none → (∀ d, d ≠ c → E' d = E d) →
      MB Try.prog (· < N) Fin E' none O (G ((base 71).at { tmps := #[x0, x1, .slice none 0 0, pv, x4, x5, x6, av, x8, x9, x10, x11, x12, x13, x14, x15, x16, x17, x18, x19, x20, x21, x22, x23, x24, x25, pv, .int .i64 nn, .int .i64 jj, x29, x30, x31, .chan (some c), x33, x34, x35, x36, x37, x38, x39, x40, x41], defers := [] } k) cs) w) →
    MB Try.prog (· < N) Fin E none O (G ((base 71).at { tmps := #[x0, x1, .slice none 0 0, pv, x4, x5, x6, av, x8, x9, x10, x11, x12, x13, x14, x15, x16, x17, x18, x19, x20, x21, x22, x23, x24, x25, pv, .int .i64 nn, .int .i64 jj, x29, x30, x31, .chan (some c), x33, x34, x35, x36, x37, x38, x39, x40, x41], defers := [] } (.code body71c :: .inLoop body71c :: .inBlock 4 :: k)) cs) w := by
  intro rem
  induction rem with
  | nil =>
    intro acc hlen O w E av x10 x33 x34 x35 x36 x37 x38 x39 hM hE cont
    simp only [body71c, Try.f71]
    refine .ctl rfl rfl (fun _ => stepG_seq) ?_
    refine .ctl rfl rfl (fun _ => stepG_region) ?_
    walk_nrm
    simp only [show List.range 2 = [0, 1] from rfl]
    refine .last (c := c) (z := .agg #[.int .i64 0, .int .i64 0]) rfl (fun w2 _ => ?_) hE ?_
    · rw [stepG_comm (cases := #[rcase c (.agg #[.int .i64 0, .int .i64 0])]) (blocking := true) (shape := .recv true) (w' := w2) rfl rfl (by decide) (by simp [go_sem, rcase])]
      simp [listed, go_sem, seen_none]
    unfold Conc.served
    simp only [G]
    rw [Frame.finish_at]
    simp only [recvd, if_true]
    walk_nrm
    refine .val (.bool false) rfl rfl (by decide) (fun w2 _ => by go_simp) (fun w2 _ => by simp [go_sem]) ?_
    walk_nrm
    refine .ctl rfl rfl (fun _ => stepG_region_end) ?_
    refine .ctl rfl rfl (fun _ => stepG_seq) ?_
    refine .ctl rfl rfl (fun _ => stepG_cond (t := false) rfl) ?_
    refine .ctl rfl rfl (fun _ => stepG_exit (k' := k) rfl) ?_
    exact cont O w (put E c none) av _ _ _ _ _ _ _ _ (by rw [List.append_nil]; exact hM) (put_same _ _ _) fun d hd => put_ne _ _ hd
  | cons p rem ih =>
    intro acc hlen O w E av x10 x33 x34 x35 x36 x37 x38 x39 hM hE cont
    simp only [body71c, Try.f71]
    refine .ctl rfl rfl (fun _ => stepG_seq) ?_
    refine .ctl rfl rfl (fun _ => stepG_region) ?_
    walk_nrm
    simp only [show List.range 2 = [0, 1] from rfl]
    refine .recv (c := c) (v := .agg #[.int .i64 p.1, .int .i64 p.2]) (z := .agg #[.int .i64 0, .int .i64 0]) (outs := rem.map ptV) rfl (fun w2 _ => ?_) hE ?_
    · rw [stepG_comm (cases := #[rcase c (.agg #[.int .i64 0, .int .i64 0])]) (blocking := true) (shape := .recv true) (w' := w2) rfl rfl (by decide) (by simp [go_sem, rcase])]
      simp [listed, go_sem, seen_none]
    unfold Conc.served
    simp only [G]
    rw [Frame.finish_at]
    simp only [recvd, if_true]
    walk_nrm
    refine .val (.bool true) rfl rfl (by decide) (fun w2 _ => by go_simp) (fun w2 _ => by simp [go_sem]) ?_
    walk_nrm
    refine .ctl rfl rfl (fun _ => stepG_region_end) ?_
    refine .ctl rfl rfl (fun _ => stepG_seq) ?_
    refine .ctl rfl rfl (fun _ => stepG_cond (t := true) rfl) ?_
    refine .ctl rfl rfl (fun _ => stepG_skip) ?_
    refine .ctl rfl rfl (fun _ => stepG_block) ?_
    refine .ctl rfl rfl (fun _ => stepG_seq) ?_
    refine .ctl rfl rfl (fun _ => stepG_region) ?_
    walk_nrm
    refine .val (.agg #[.int .i64 p.1, .int .i64 p.2]) rfl rfl (by decide) (fun w2 _ => by go_simp) (fun w2 _ => by simp [go_sem]) ?_
    walk_nrm
    refine .newB (.cells #[.int .i64 0, .int .i64 0] 23) (fun n => .pointer (some ⟨n, 0, none⟩)) rfl rfl (by decide) (fun w2 _ => by go_simp) (fun w2 _ => by simp [go_sem]) fun w2 k2 => ?_
    walk_nrm
    have hMk := hM.keeps k2
    replace hM := hMk.alloc (.cells #[.int .i64 0, .int .i64 0] 23)
    obtain ⟨n, hn⟩ : ∃ n, w2.heap.size = n := ⟨_, rfl⟩
    have hO1 : own O w2 (w2.alloc (.cells #[.int .i64 0, .int .i64 0] 23)) n := .inr ⟨by omega, by rw [alloc_heap, Array.size_push]; omega⟩
    have hcell : (w2.alloc (.cells #[.int .i64 0, .int .i64 0] 23)).heap[n]? = some (.cells #[.int .i64 0, .int .i64 0] 23 (0, 0)) := by
      rw [alloc_heap, ← hn]
      exact Array.getElem?_push_size
    have hnp : ∀ g, pv.ownBlock = some g → g ≠ n := fun g hg => by have := row_lt hMk.p hg; omega
    have hna : ∀ g, av.ownBlock = some g → g ≠ n := fun g hg => by have := row_lt hMk.a hg; omega
    rw [hn]
    generalize own O w2 (w2.alloc (.cells #[.int .i64 0, .int .i64 0] 23)) = O1 at hO1 hM ⊢
    generalize w2.alloc (.cells #[.int .i64 0, .int .i64 0] 23) = w3 at hcell hM ⊢
    refine .go1 rfl fun w4 k4 => ⟨_, (w4.setCell ⟨n, 0, none⟩ (.int .i64 p.1)).setCell ⟨n, 1, none⟩ (.int .i64 p.2), _, stepG_none rfl rfl (by decide) ?_, rfl, ?_, fun e he => ?_, ?_⟩
    · have h4 := k4.block n (.inl hO1)
      rw [hcell] at h4
      obtain ⟨⟨q1, q2⟩, ⟨q3, q4⟩, _⟩ := two_cells (u := .int .i64 p.1) h4
      go_simp
    · exact (did_setc _ _ hO1).trans (did_setc _ _ hO1)
    · have h4 := k4.block n (.inl hO1)
      rw [hcell] at h4
      obtain ⟨⟨q1, q2⟩, ⟨q3, q4⟩, _⟩ := two_cells (u := .int .i64 p.1) h4
      have := mem_listed he
      simp [go_sem, storedEv, q1, q2, q3, q4] at this
      rw [own_same (by rw [set_size, set_size])]
      rcases this with rfl | rfl
      · exact .inl ⟨_, rfl, .inl hO1⟩
      · exact .inl ⟨_, rfl, .inl hO1⟩
    rw [own_same (by rw [set_size, set_size])]
    have h4 := k4.block n (.inl hO1)
    rw [hcell] at h4
    have hcell5 := (two_cells (u := .int .i64 p.1) h4).2.2 (.int .i64 p.2)
    replace hM := (hM.keeps k4).other (w1 := (w4.setCell ⟨n, 0, none⟩ (.int .i64 p.1)).setCell ⟨n, 1, none⟩ (.int .i64 p.2)) ((did_setc _ _ hO1).trans (did_setc _ _ hO1)) (by rw [set_size, set_size]) (fun g hg => by rw [Below.heap_setCell _ _ _ _ (hnp g hg), Below.heap_setCell _ _ _ _ (hnp g hg)]) (fun g hg => by rw [Below.heap_setCell _ _ _ _ (hna g hg), Below.heap_setCell _ _ _ _ (hna g hg)])
    generalize (w4.setCell ⟨n, 0, none⟩ (.int .i64 p.1)).setCell ⟨n, 1, none⟩ (.int .i64 p.2) = w5 at hcell5 hM ⊢
    walk_nrm
    refine .ctl rfl rfl (fun _ => stepG_region_end) ?_
    refine .ctl rfl rfl (fun _ => stepG_region) ?_
    walk_nrm
    refine .mov av rfl rfl (.inl rfl) rfl (by decide) ?_
    walk_nrm
    refine .val (.agg #[.int .i64 p.1, .int .i64 p.2]) rfl rfl (by decide) (fun w2 k2 => ?_) (fun w2 k2 => ?_) ?_
    · have h6 := k2.block n (.inl hO1)
      rw [hcell5] at h6
      have h1 : w2.cell? ⟨n, 0, none⟩ = some (.int .i64 p.1) := by simp [World.cell?, h6]
      have h2 : w2.cell? ⟨n, 1, none⟩ = some (.int .i64 p.2) := by simp [World.cell?, h6]
      go_simp
    · have h6 := k2.block n (.inl hO1)
      rw [hcell5] at h6
      have h1 : w2.cell? ⟨n, 0, none⟩ = some (.int .i64 p.1) := by simp [World.cell?, h6]
      have h2 : w2.cell? ⟨n, 1, none⟩ = some (.int .i64 p.2) := by simp [World.cell?, h6]
      intro e he
      simp [go_sem, h1, h2] at he
      rcases he with rfl | rfl
      · exact .inl ⟨_, rfl, .inl hO1⟩
      · exact .inl ⟨_, rfl, .inl hO1⟩
    walk_nrm
    refine .newB (.cells #[.int .i64 p.1, .int .i64 p.2] 23) (fun n => .slice (some ⟨n, 0, none⟩) 1 1) rfl rfl (by decide) (fun w2 _ => by go_simp) (fun w2 _ => by simp [go_sem]) fun w6 k6 => ?_
    walk_nrm
    replace hM := (hM.keeps k6).alloc (.cells #[.int .i64 p.1, .int .i64 p.2] 23)
    obtain ⟨n', hn'⟩ : ∃ n, w6.heap.size = n := ⟨_, rfl⟩
    have hO6 : own O1 w6 (w6.alloc (.cells #[.int .i64 p.1, .int .i64 p.2] 23)) n' := .inr ⟨by omega, by rw [alloc_heap, Array.size_push]; omega⟩
    have hcell6 : (w6.alloc (.cells #[.int .i64 p.1, .int .i64 p.2] 23)).heap[n']? = some (.cells #[.int .i64 p.1, .int .i64 p.2] 23 (0, 0)) := by
      rw [alloc_heap, ← hn']
      exact Array.getElem?_push_size
    rw [hn']
    generalize own O1 w6 (w6.alloc (.cells #[.int .i64 p.1, .int .i64 p.2] 23)) = O6 at hO6 hM ⊢
    generalize w6.alloc (.cells #[.int .i64 p.1, .int .i64 p.2] 23) = w7 at hcell6 hM ⊢
    obtain ⟨i0, hi0, hz0, hz1, hz2⟩ := Try.info23'
    refine .app (N := N) (news := [.int .i64 p.1, .int .i64 p.2]) (.tmp 36) (.tmp 38) rfl rfl (by decide) rfl rfl rfl Try.underlying28 hi0 hz0 hz1 hz2 rfl (by omega) hM.a hM.ao hO6 rfl ?_ ?_ ?_ ?_ hM.m0.size (by omega) hM.ai ?_ ?_ fun w8 v' w9 k8 r1 r2 r3 r4 r5 r6 => ?_
    · intro j u hj
      match j, hj with
      | 0, hj => simp at hj; subst hj; simp [World.cell?, Addr.add_lit, hcell6]
      | 1, hj => simp at hj; subst hj; simp [World.cell?, Addr.add_lit, hcell6]
      | j + 2, hj => simp at hj
    · intro u hu
      simp at hu
      rcases hu with rfl | rfl <;> rfl
    · simp at hlen; simp only [maxLen]; omega
    · simp at hlen; omega
    · intro x hx
      simp [Value.cells] at hx
      exact ⟨0, hx⟩
    · intro x hx
      simp at hx
      rcases hx with rfl | rfl
      · exact ⟨_, rfl⟩
      · exact ⟨_, rfl⟩
    walk_nrm
    have hM9 : M1 N ws (own O6 w8 w9) w9 pv cl v' (acc ++ [p]) := by
      have hp8 := owns_keeps hM.p hM.po k8
      refine ⟨hM.m0.step k8 r3, row_of hp8 fun g hg => r4.block g (row_lt hp8 hg) fun e => hM.ne g hg e.symm, fun g hg => .inl (hM.po g hg), ?_, r2, (fun g hg e => ?_), r6⟩
      · rw [List.length_append, flatP_append]
        exact r1
      · rcases r5 with r5 | r5
        · rw [r5] at e; exact hM.ne g hg e
        · rw [r5] at e
          injection e with e
          have := row_lt hp8 hg
          omega
    refine .mov v' rfl rfl (.inr rfl) rfl (by decide) ?_
    walk_nrm
    refine .ctl rfl rfl (fun _ => stepG_region_end) ?_
    refine .ctl rfl rfl (fun _ => stepG_inBlock) ?_
    refine .ctl rfl rfl (fun _ => stepG_inLoop) ?_
    exact ih (acc ++ [p]) (by simp at hlen ⊢; omega) _ w9 (put E c (some (rem.map ptV))) v' _ _ _ _ _ _ _ _ hM9 (put_same _ _ _) fun O w E' av x10 x33 x34 x35 x36 x37 x38 x39 q1 q2 q3 => cont O w E' av x10 x33 x34 x35 x36 x37 x38 x39 (by simpa using q1) q2 fun d hd => by rw [q3 d hd, put_ne _ _ hd]
end Go.Proofs.Ytgeoffpcmkofkaa
/- The one that starts them: it takes what each of them sends. -/
namespace Go.Proofs.Ytgeoffpcmkofkaa
open Go Go.Conc Go.RowKit
set_option maxRecDepth 100000

noncomputable def body71b : Code := match Try.f71.body with
  | some (.seq _ (.seq _ (.seq _ (.seq _ (.seq (.seq _ (.block _ (.loop b))) _))))) => b
  | _ => .skip
noncomputable def tail71 : Code := match Try.f71.body with
  | some (.seq _ (.seq _ (.seq _ (.seq _ (.seq _ t))))) => t
  | _ => .skip
/-- What stands in the channels from the j-th on. -/
structure ERs (E : Nat → Option (List Value)) (cl : List Nat) (outs : Nat → Pts) (j : Nat) : Prop where
  there : ∀ (i c : Nat), j ≤ i → cl[i]? = some c → E c = some ((outs i).map ptV)
  only : ∀ c o, E c = some o → ∃ i : Nat, j ≤ i ∧ cl[i]? = some c
  once : ∀ (i i' c : Nat), cl[i]? = some c → cl[i']? = some c → i = i'
def cat (outs : Nat → Pts) (j : Nat) : Pts := (List.range j).flatMap outs
theorem cat_succ (outs : Nat → Pts) (j : Nat) : cat outs (j + 1) = cat outs j ++ outs j := by
  simp [cat, List.range_succ]
theorem cat_le (outs : Nat → Pts) {j m : Nat} (h : j ≤ m) : (cat outs j).length ≤ (cat outs m).length := by
  induction m with
  | zero => have : j = 0 := by omega
            subst this; exact Nat.le_refl _
  | succ m ih =>
    rcases Nat.lt_or_ge j (m + 1) with h1 | h1
    · rw [cat_succ, List.length_append]
      have := ih (by omega)
      omega
    · have : j = m + 1 := by omega
      subst this
      exact Nat.le_refl _
theorem elem105 : Try.prog.underlying 105 = some (.slice (Try.prog.elem 105)) := by kernel_rfl
theorem elem106 : Try.prog.underlying 106 = some (.slice (Try.prog.elem 106)) := by kernel_rfl
set_option maxHeartbeats 1000000 in
theorem all71 {N : Nat} {ws : World} {Fin : Goroutine → World → Prop} {cs : List Frame} {pv : Value} {cl : List Nat} {outs : Nat → Pts} {x0 x1 x4 x5 x6 x8 x11 x12 x13 x14 x15 x16 x17 x18 x19 x20 x21 x22 x23 x24 x25 x41 : Value} {m : Nat} (hm : m ≤ 1000) (hcl : cl.length = m) (hlen : (cat outs m).length ≤ 10000)
    (hFin : ∀ (O : Nat → Prop) (w : World) (av : Value) (tmps : Array Value) (todo : List Item), M1 N ws O w pv cl av (cat outs m) → tmps.getD 2 undef = av → Fin (G { (base 71).at { tmps := tmps, defers := [] } todo with mode := .returning } cs) w) :
    ∀ (d j : Nat), j + d = m → ∀ (O : Nat → Prop) (w : World) (E : Nat → Option (List Value)) (av x9 x10 x29 x30 x31 x32 x33 x34 x35 x36 x37 x38 x39 x40 : Value), M1 N ws O w pv cl av (cat outs j) → ERs E cl outs j →
      MB Try.prog (· < N) Fin E none O (G ((base 71).at { tmps := #[x0, x1, .slice none 0 0, pv, x4, x5, x6, av, x8, x9, x10, x11, x12, x13, x14, x15, x16, x17, x18, x19, x20, x21, x22, x23, x24, x25, pv, .int .i64 (m : Nat), .int .i64 (j : Nat), x29, x30, x31, x32, x33, x34, x35, x36, x37, x38, x39, x40, x41], defers := [] } [.code body71b, .inLoop body71b, .inBlock 2, .code tail71]) cs) w := by
  intro d
  induction d with
  | zero =>
    intro j hj O w E av x9 x10 x29 x30 x31 x32 x33 x34 x35 x36 x37 x38 x39 x40 hM hE
    have hj : j = m := by omega
    subst hj
    simp only [body71b, Try.f71]
    refine .ctl rfl rfl (fun _ => stepG_seq) ?_
    refine .ctl rfl rfl (fun _ => stepG_region) ?_
    walk_nrm
    refine .val (.bool false) rfl rfl (by decide) (fun w2 _ => by go_simp) (fun w2 _ => by simp [go_sem]) ?_
    walk_nrm
    refine .ctl rfl rfl (fun _ => stepG_region_end) ?_
    refine .ctl rfl rfl (fun _ => stepG_seq) ?_
    refine .ctl rfl rfl (fun _ => stepG_cond (t := false) rfl) ?_
    refine .ctl rfl rfl (fun _ => stepG_exit (k' := [.code tail71]) rfl) ?_
    simp only [tail71, Try.f71]
    refine .ctl rfl rfl (fun _ => stepG_seq) ?_
    refine .ctl rfl rfl (fun _ => stepG_region) ?_
    walk_nrm
    refine .mov av rfl rfl (.inl rfl) rfl (by decide) ?_
    walk_nrm
    refine .mov av rfl rfl (.inr rfl) rfl (by decide) ?_
    walk_nrm
    refine .ctl rfl rfl (fun _ => stepG_region_end) ?_
    refine .ctl rfl rfl (fun _ => stepG_ret') ?_
    refine .stop (fun c => ?_) fun w2 k2 => hFin O w2 av _ _ (hM.keeps k2) rfl
    cases hc : E c with
    | none => rfl
    | some o =>
      obtain ⟨i, h1, h2⟩ := hE.only c o hc
      have := (List.getElem?_eq_some_iff.1 h2).1
      omega
  | succ d ih =>
    intro j hj O w E av x9 x10 x29 x30 x31 x32 x33 x34 x35 x36 x37 x38 x39 x40 hM hE
    have hjm : j < m := by omega
    obtain ⟨c, hc⟩ : ∃ c, cl[j]? = some c := ⟨_, List.getElem?_eq_getElem (by omega)⟩
    simp only [body71b, Try.f71]
    refine .ctl rfl rfl (fun _ => stepG_seq) ?_
    refine .ctl rfl rfl (fun _ => stepG_region) ?_
    walk_nrm
    refine .val (.bool true) rfl rfl (by decide) (fun w2 _ => by go_simp) (fun w2 _ => by simp [go_sem]) ?_
    walk_nrm
    refine .ctl rfl rfl (fun _ => stepG_region_end) ?_
    refine .ctl rfl rfl (fun _ => stepG_seq) ?_
    refine .ctl rfl rfl (fun _ => stepG_cond (t := true) rfl) ?_
    refine .ctl rfl rfl (fun _ => stepG_skip) ?_
    refine .ctl rfl rfl (fun _ => stepG_seq) ?_
    refine .ctl rfl rfl (fun _ => stepG_block) ?_
    refine .ctl rfl rfl (fun _ => stepG_seq) ?_
    refine .ctl rfl rfl (fun _ => stepG_region) ?_
    walk_nrm
    obtain ⟨g, cap, hpv, hg, hrow⟩ : ∃ g cap, pv = .slice (some ⟨g, 0, none⟩) m cap ∧ O g ∧ w.cell? ⟨g, j, none⟩ = some (.chan (some c)) := by
      rcases hM.p.2 with ⟨_, e⟩ | ⟨g, cap, cur, e1, e2, e3, e4, e5, e6, e7⟩
      · omega
      · refine ⟨g, cap, by rw [e1, hcl], hM.po g (by rw [e1]; rfl), ?_⟩
        have : cur.toList[j]? = some (.chan (some c)) := by
          have h1 : (cur.toList.take (cl.length * 1))[j]? = some (.chan (some c)) := by
            rw [e7, List.getElem?_map, hc]
            rfl
          rw [List.getElem?_take_of_lt (by omega)] at h1
          exact h1
        simp only [World.cell?, e3]
        simpa using this
    subst hpv
    refine .val (.pointer (some ⟨g, j, none⟩)) rfl rfl (by decide) (fun w2 _ => by go_simp) (fun w2 _ => by simp [go_sem, events_indexAt_slice 105 _ _ _ _ _ elem105 (show (0 : Int) ≤ j ∧ (j : Int) < m by omega)]) ?_
    walk_nrm
    refine .val (.chan (some c)) rfl rfl (by decide) (fun w2 k2 => ?_) (fun w2 k2 => ?_) ?_
    · have h1 := k2.cell (ad := ⟨g, j, none⟩) (.inl hg)
      rw [hrow] at h1
      go_simp
    · have h1 := k2.cell (ad := ⟨g, j, none⟩) (.inl hg)
      rw [hrow] at h1
      intro e he
      simp [go_sem, h1] at he
      subst he
      exact .inl ⟨_, rfl, .inl hg⟩
    walk_nrm
    refine .mov (.chan (some c)) rfl rfl (.inr rfl) rfl (by decide) ?_
    walk_nrm
    refine .ctl rfl rfl (fun _ => stepG_region_end) ?_
    refine .ctl rfl rfl (fun _ => stepG_seq) ?_
    refine .ctl rfl rfl (fun _ => stepG_region) ?_
    walk_nrm
    refine .mov (.chan (some c)) rfl rfl (.inl rfl) rfl (by decide) ?_
    walk_nrm
    refine .ctl rfl rfl (fun _ => stepG_region_end) ?_
    refine .ctl rfl rfl (fun _ => stepG_block) ?_
    refine .ctl rfl rfl (fun _ => stepG_loop) ?_
    have hle : (cat outs j).length + (outs j).length ≤ 100000 := by
      have := cat_le outs (show j + 1 ≤ m by omega)
      rw [cat_succ, List.length_append] at this
      omega
    refine take71 (c := c) (outs j) (cat outs j) hle O w E av _ _ _ _ _ _ _ _ hM (hE.there j c (Nat.le_refl _) hc) fun O w E' av y10 y33 y34 y35 y36 y37 y38 y39 hM' h1 h2 => ?_
    refine .ctl rfl rfl (fun _ => stepG_inBlock) ?_
    refine .ctl rfl rfl (fun _ => stepG_region) ?_
    walk_nrm
    refine .val (.int .i64 ((j + 1 : Nat) : Int)) rfl rfl (by decide) (fun w2 _ => by go_simp; rw [IntKind.wrap_i64]; omega) (fun w2 _ => by simp [go_sem]) ?_
    walk_nrm
    refine .mov (.int .i64 ((j + 1 : Nat) : Int)) rfl rfl (.inl rfl) rfl (by decide) ?_
    walk_nrm
    refine .ctl rfl rfl (fun _ => stepG_region_end) ?_
    refine .ctl rfl rfl (fun _ => stepG_inLoop) ?_
    refine ih (j + 1) (by omega) O w E' av _ _ _ _ _ _ _ _ _ _ _ _ _ _ (by rw [cat_succ]; exact hM') ⟨fun i d hi hd => ?_, fun d o hd => ?_, hE.once⟩
    · have : d ≠ c := by
        rintro rfl
        have := hE.once i j d hd hc
        omega
      rw [h2 d this]
      exact hE.there i d (by omega) hd
    · by_cases e : d = c
      · rw [e, h1] at hd; cases hd
      · rw [h2 d e] at hd
        obtain ⟨i, q1, q2⟩ := hE.only d o hd
        refine ⟨i, ?_, q2⟩
        rcases Nat.lt_or_ge j i with h | h
        · exact h
        · have : i = j := by omega
          subst this
          rw [hc] at q2
          injection q2 with q2
          exact absurd q2.symm e
end Go.Proofs.Ytgeoffpcmkofkaa
/- The one that starts them: it starts them. -/
namespace Go.Proofs.Ytgeoffpcmkofkaa
open Go Go.Conc Go.RowKit
set_option maxRecDepth 100000

noncomputable def body71a : Code := match Try.f71.body with
  | some (.seq _ (.seq _ (.seq (.seq _ (.block _ (.loop b))) _))) => b
  | _ => .skip
noncomputable def rest71 : Code := match Try.f71.body with
  | some (.seq _ (.seq _ (.seq _ t))) => t
  | _ => .skip
theorem Try.info108 : (Try.prog.info? 108).map (fun i => (i.zero, i.size, i.bytes)) = some (some (.chan none), 1, 8) := by kernel_rfl
section
variable {P : Program} {S : Nat → Prop} {O : Nat → Prop} {w : World} {b : Frame} {a : Act} {ops : Array Oper} {i : Nat} {rest : List Nat} {o : Oper} {k : List Item} {cs : List Frame} {Fin : Goroutine → World → Prop} {E : Nat → Option (List Value)}
/-- A channel is made. -/
theorem MB.chn (ho : ops[i]? = some o) (hw : Region.wanted o (yielded ops a.tmps) = true) (hk : b.kind ≠ .early) (hr : ∀ w2, (execOp a.eval o).run P w2 = .ok (.value (.chan (some w2.heap.size))) (w2.alloc (.chan 0 #[] false 0 0 false))) (he : ∀ w2, (execOp a.eval o).events P w2 #[] = #[])
    (h : ∀ w2, Keeps O S w w2 → MB P S Fin E (some w2.heap.size) O (G (b.at (a.put o.dst (.chan (some w2.heap.size))) (.inRegion ops rest :: k)) cs) (w2.alloc (.chan 0 #[] false 0 0 false))) : MB P S Fin E none O (G (b.at a (.inRegion ops (i :: rest) :: k)) cs) w := by
  have key : ∀ w2, stepG P true (G (b.at a (.inRegion ops (i :: rest) :: k)) cs) w2 = .go (G (b.at (a.put o.dst (.chan (some w2.heap.size))) (.inRegion ops rest :: k)) cs) (w2.alloc (.chan 0 #[] false 0 0 false)) #[] := by
    intro w2
    rw [stepG_value ho hw hk (hr w2)]
    unfold listed
    rw [he w2, seen_none]
  refine .make (tm := false) rfl (fun w2 _ => ⟨_, key w2, rfl⟩) fun w2 a1 w1 es k2 hs => ?_
  rw [key w2] at hs
  injection hs with e1 e2 _
  subst e1 e2
  exact h w2 k2
/-- One is started. -/
theorem MB.spw {d : Deferred} {c : Nat} {outs : List Value} {f : Fn} {cc : Array Value} (ho : ops[i]? = some o) (hw : Region.wanted o (yielded ops a.tmps) = true) (hk : b.kind ≠ .early) (hr : ∀ w2, (execOp a.eval o).run P w2 = .ok (.spawn d) w2) (he : ∀ w2, (execOp a.eval o).events P w2 #[] = #[]) (hd : d.target = .fn f cc)
    (hkid : ∀ w2, Keeps O S w w2 → KT P S c outs (fun _ => False) (born P d) w2) (h : MB P S Fin (put E c (some outs)) none O (G (b.at (a.put o.dst undef) (.inRegion ops rest :: k)) cs) w) : MB P S Fin E (some c) O (G (b.at a (.inRegion ops (i :: rest) :: k)) cs) w := by
  refine .spawn (a1 := G (b.at (a.put o.dst undef) (.inRegion ops rest :: k)) cs) rfl rfl (fun w2 _ => ?_) hkid h
  rw [stepG_spawn ho hw hk (hr w2) hd]
  unfold listed
  rw [he w2, seen_none]
end
theorem M1.same {N : Nat} {ws w : World} {O : Nat → Prop} {pv av : Value} {cl : List Nat} {acc : Pts} (h : M1 N ws O w pv cl av acc) (ob : Obj) : M1 N ws O (w.alloc ob) pv cl av acc := by
  have := h.alloc ob
  exact ⟨⟨h.m0.above, this.m0.old, this.m0.size, this.m0.os, this.m0.output⟩, this.p, h.po, this.a, h.ao, h.ne, this.ai⟩
set_option maxHeartbeats 1000000 in
theorem start71 {N : Nat} {ws : World} {Fin : Goroutine → World → Prop} {cs : List Frame} {pcv : Value} {outs : Nat → Pts} {parts : Nat → Value} {x0 x1 x4 x7 x8 x9 x10 x11 x26 x27 x28 x29 x30 x31 x32 x33 x34 x35 x36 x37 x38 x39 x40 x41 : Value} {m : Nat} (hm : m ≤ 1000) (hlen : (cat outs m).length ≤ 10000)
    (hpc : 0 < m → ∃ pc cap, pcv = .slice (some ⟨pc, 0, none⟩) m cap ∧ pc < N ∧ ∀ i, i < m → ws.cell? ⟨pc, i, none⟩ = some (parts i)) (hsl : ∀ i, i < m → ∃ x l c, parts i = .slice x l c)
    (hkid : ∀ i, i < m → ∀ c w2, (∀ r, r < N → w2.heap[r]? = ws.heap[r]?) → N ≤ w2.heap.size → KT Try.prog (· < N) c ((outs i).map ptV) (fun _ => False) (born Try.prog (dcall 91 #[parts i, .chan (some c)])) w2)
    (hFin : ∀ (O : Nat → Prop) (w : World) (pv : Value) (cl : List Nat) (av : Value) (tmps : Array Value) (todo : List Item), M1 N ws O w pv cl av (cat outs m) → tmps.getD 2 undef = av → Fin (G { (base 71).at { tmps := tmps, defers := [] } todo with mode := .returning } cs) w) :
    ∀ (d j : Nat), j + d = m → ∀ (O : Nat → Prop) (w : World) (E : Nat → Option (List Value)) (cl : List Nat) (pv x5 x6 x15 x16 x17 x18 x19 x20 x21 x22 x23 x24 x25 : Value), cl.length = j → M1 N ws O w pv cl (.slice none 0 0) [] → ERs E cl outs 0 → (∀ (i c : Nat), cl[i]? = some c → c < w.heap.size) →
      MB Try.prog (· < N) Fin E none O (G ((base 71).at { tmps := #[x0, x1, .slice none 0 0, pv, x4, x5, x6, x7, x8, x9, x10, x11, pcv, .int .i64 (m : Nat), .int .i64 (j : Nat), x15, x16, x17, x18, x19, x20, x21, x22, x23, x24, x25, x26, x27, x28, x29, x30, x31, x32, x33, x34, x35, x36, x37, x38, x39, x40, x41], defers := [] } [.code body71a, .inLoop body71a, .inBlock 0, .code rest71]) cs) w := by
  intro d
  induction d with
  | zero =>
    intro j hj O w E cl pv x5 x6 x15 x16 x17 x18 x19 x20 x21 x22 x23 x24 x25 hcl hM hE hlow
    have hj : j = m := by omega
    subst hj
    simp only [body71a, Try.f71]
    refine .ctl rfl rfl (fun _ => stepG_seq) ?_
    refine .ctl rfl rfl (fun _ => stepG_region) ?_
    walk_nrm
    refine .val (.bool false) rfl rfl (by decide) (fun w2 _ => by go_simp) (fun w2 _ => by simp [go_sem]) ?_
    walk_nrm
    refine .ctl rfl rfl (fun _ => stepG_region_end) ?_
    refine .ctl rfl rfl (fun _ => stepG_seq) ?_
    refine .ctl rfl rfl (fun _ => stepG_cond (t := false) rfl) ?_
    refine .ctl rfl rfl (fun _ => stepG_exit (k' := [.code rest71]) rfl) ?_
    simp only [rest71, Try.f71]
    refine .ctl rfl rfl (fun _ => stepG_seq) ?_
    refine .ctl rfl rfl (fun _ => stepG_region) ?_
    walk_nrm
    refine .mov (.slice none 0 0) rfl rfl (.inr rfl) rfl (by decide) ?_
    walk_nrm
    refine .ctl rfl rfl (fun _ => stepG_region_end) ?_
    refine .ctl rfl rfl (fun _ => stepG_seq) ?_
    refine .ctl rfl rfl (fun _ => stepG_seq) ?_
    refine .ctl rfl rfl (fun _ => stepG_region) ?_
    walk_nrm
    refine .mov pv rfl rfl (.inl rfl) rfl (by decide) ?_
    walk_nrm
    have hpv : ∃ b cap, pv = .slice b j cap := by
      rcases hM.p.2 with ⟨e, e2⟩ | ⟨g, cap, cur, e1, _⟩
      · exact ⟨none, 0, by rw [e, ← hcl, e2]⟩
      · exact ⟨_, cap, by rw [e1, hcl]⟩
    refine .val (.int .i64 (j : Nat)) rfl rfl (by decide) (fun w2 _ => ?_) (fun w2 _ => ?_) ?_
    · obtain ⟨b, cap, rfl⟩ := hpv
      go_simp
    · obtain ⟨b, cap, rfl⟩ := hpv
      simp [go_sem]
    walk_nrm
    refine .mov (.int .i64 0) rfl rfl (.inl rfl) rfl (by decide) ?_
    walk_nrm
    refine .ctl rfl rfl (fun _ => stepG_region_end) ?_
    refine .ctl rfl rfl (fun _ => stepG_block) ?_
    refine .ctl rfl rfl (fun _ => stepG_loop) ?_
    exact all71 hm hcl hlen (fun O w av tmps todo h1 h2 => hFin O w pv cl av tmps todo h1 h2) j 0 (by omega) O w E _ _ _ _ _ _ _ _ _ _ _ _ _ _ _ hM hE
  | succ d ih =>
    intro j hj O w E cl pv x5 x6 x15 x16 x17 x18 x19 x20 x21 x22 x23 x24 x25 hcl hM hE hlow
    have hjm : j < m := by omega
    obtain ⟨pc, cap, rfl, hpcN, hcells⟩ := hpc (by omega)
    simp only [body71a, Try.f71]
    refine .ctl rfl rfl (fun _ => stepG_seq) ?_
    refine .ctl rfl rfl (fun _ => stepG_region) ?_
    walk_nrm
    refine .val (.bool true) rfl rfl (by decide) (fun w2 _ => by go_simp) (fun w2 _ => by simp [go_sem]) ?_
    walk_nrm
    refine .ctl rfl rfl (fun _ => stepG_region_end) ?_
    refine .ctl rfl rfl (fun _ => stepG_seq) ?_
    refine .ctl rfl rfl (fun _ => stepG_cond (t := true) rfl) ?_
    refine .ctl rfl rfl (fun _ => stepG_skip) ?_
    refine .ctl rfl rfl (fun _ => stepG_seq) ?_
    refine .ctl rfl rfl (fun _ => stepG_block) ?_
    refine .ctl rfl rfl (fun _ => stepG_seq) ?_
    refine .ctl rfl rfl (fun _ => stepG_region) ?_
    walk_nrm
    have hcell : w.cell? ⟨pc, j, none⟩ = some (parts j) := by
      rw [← hcells j hjm]
      unfold World.cell?
      rw [hM.m0.old pc hpcN]
    obtain ⟨sx, sl, sc, hsx⟩ := hsl j hjm
    refine .val (.pointer (some ⟨pc, j, none⟩)) rfl rfl (by decide) (fun w2 _ => by go_simp) (fun w2 _ => by simp [go_sem, events_indexAt_slice 106 _ _ _ _ _ elem106 (show (0 : Int) ≤ j ∧ (j : Int) < m by omega)]) ?_
    walk_nrm
    refine .val (parts j) rfl rfl (by decide) (fun w2 k2 => ?_) (fun w2 k2 => ?_) ?_
    · have h1 := k2.cell (ad := ⟨pc, j, none⟩) (.inr hpcN)
      rw [hcell] at h1
      rw [hsx] at h1 ⊢
      go_simp
    · have h1 := k2.cell (ad := ⟨pc, j, none⟩) (.inr hpcN)
      rw [hcell] at h1
      rw [hsx] at h1
      intro e he
      simp [go_sem, h1] at he
      subst he
      exact .inl ⟨_, rfl, .inr ⟨hpcN, rfl⟩⟩
    walk_nrm
    refine .mov (parts j) rfl rfl (.inr rfl) rfl (by decide) ?_
    walk_nrm
    refine .ctl rfl rfl (fun _ => stepG_region_end) ?_
    refine .ctl rfl rfl (fun _ => stepG_seq) ?_
    refine .ctl rfl rfl (fun _ => stepG_region) ?_
    walk_nrm
    obtain ⟨i23, hi23, hz23, hs23, hb23⟩ := Try.info23'
    refine .chn rfl rfl (by decide) (fun w2 => ?_) (fun w2 => ?_) fun w2 k2 => ?_
    · have : (Instr.makeChan 108 (.int .i64 0)).run Try.prog w2 = .ok (.chan (some w2.heap.size)) (w2.alloc (.chan 0 #[] false 0 0 false)) := run_makeChan (P := Try.prog) (w := w2) Try.underlying108 hi23 .i64 0 (by omega) (by rw [hb23]; omega)
      simp [go_sem, this]
    · have : (Instr.makeChan 108 (.int .i64 0)).events Try.prog w2 #[] = #[] := events_makeChan (P := Try.prog) (w := w2) Try.underlying108 hi23 .i64 0 (by omega) (by rw [hb23]; omega) #[]
      simp [go_sem, this]
    walk_nrm
    obtain ⟨c, hc⟩ : ∃ c, w2.heap.size = c := ⟨_, rfl⟩
    have hcnew : ∀ (i c' : Nat), cl[i]? = some c' → c' < c := fun i c' h => by have := hlow i c' h; have := k2.size; omega
    replace hM := (hM.keeps k2).same (.chan 0 #[] false 0 0 false)
    have hsz : c < (w2.alloc (.chan 0 #[] false 0 0 false)).heap.size := by rw [alloc_heap, Array.size_push]; omega
    rw [hc]
    generalize w2.alloc (.chan 0 #[] false 0 0 false) = w3 at hM hsz ⊢
    refine .mov (.chan (some c)) rfl rfl (.inr rfl) rfl (by decide) ?_
    walk_nrm
    refine .ctl rfl rfl (fun _ => stepG_region_end) ?_
    refine .ctl rfl rfl (fun _ => stepG_seq) ?_
    refine .ctl rfl rfl (fun _ => stepG_region) ?_
    walk_nrm
    refine .mov (parts j) rfl rfl (.inl rfl) rfl (by decide) ?_
    walk_nrm
    refine .mov (.chan (some c)) rfl rfl (.inl rfl) rfl (by decide) ?_
    walk_nrm
    refine .spw (d := dcall 91 #[parts j, .chan (some c)]) (outs := (outs j).map ptV) rfl rfl (by decide) (fun w4 => by simp [go_sem, dcall]) (fun w4 => by simp [go_sem]) rfl (fun w4 k4 => hkid j hjm c w4 (hM.m0.keeps k4).old (hM.m0.keeps k4).size) ?_
    walk_nrm
    refine .ctl rfl rfl (fun _ => stepG_region_end) ?_
    refine .ctl rfl rfl (fun _ => stepG_region) ?_
    walk_nrm
    refine .mov pv rfl rfl (.inl rfl) rfl (by decide) ?_
    walk_nrm
    refine .mov (.chan (some c)) rfl rfl (.inl rfl) rfl (by decide) ?_
    walk_nrm
    refine .newB (.cells #[.chan (some c)] 108) (fun n => .slice (some ⟨n, 0, none⟩) 1 1) rfl rfl (by decide) (fun w2 _ => by go_simp) (fun w2 _ => by simp [go_sem]) fun w6 k6 => ?_
    walk_nrm
    replace hM := (hM.keeps k6).alloc (.cells #[.chan (some c)] 108)
    obtain ⟨n', hn'⟩ : ∃ n, w6.heap.size = n := ⟨_, rfl⟩
    have hO6 : own O w6 (w6.alloc (.cells #[.chan (some c)] 108)) n' := .inr ⟨by omega, by rw [alloc_heap, Array.size_push]; omega⟩
    have hcell6 : (w6.alloc (.cells #[.chan (some c)] 108)).heap[n']? = some (.cells #[.chan (some c)] 108 (0, 0)) := by
      rw [alloc_heap, ← hn']
      exact Array.getElem?_push_size
    have hsz6 : c < (w6.alloc (.cells #[.chan (some c)] 108)).heap.size := by rw [alloc_heap, Array.size_push]; have := k6.size; omega
    rw [hn']
    generalize own O w6 (w6.alloc (.cells #[.chan (some c)] 108)) = O6 at hO6 hM ⊢
    generalize w6.alloc (.cells #[.chan (some c)] 108) = w7 at hcell6 hM hsz6 ⊢
    obtain ⟨i0, hi0, hz0, hz1, hz2⟩ := info_parts Try.info108
    refine .app (N := N) (news := [.chan (some c)]) (.tmp 21) (.tmp 23) rfl rfl (by decide) rfl rfl rfl Try.underlying105 hi0 hz0 hz1 hz2 rfl (by omega) hM.p hM.po hO6 rfl ?_ ?_ ?_ ?_ hM.m0.size (by omega) (Ip := fun _ => True) (fun _ _ _ _ _ _ _ _ => trivial) (fun _ _ => trivial) (fun _ _ => trivial) fun w8 v' w9 k8 r1 r2 r3 r4 r5 _ => ?_
    · intro i u hi
      match i, hi with
      | 0, hi => simp at hi; subst hi; simp [World.cell?, Addr.add_lit, hcell6]
      | i + 1, hi => simp at hi
    · intro u hu
      simp at hu
      subst hu
      rfl
    · simp only [maxLen]; omega
    · omega
    walk_nrm
    have hM9 : M1 N ws (own O6 w8 w9) w9 v' (cl ++ [c]) (.slice none 0 0) [] := by
      refine ⟨hM.m0.step k8 r3, ?_, r2, ⟨rfl, .inl ⟨rfl, rfl⟩⟩, (fun g hg => by cases hg), (fun g _ e => by cases e), (fun g hg => by cases hg)⟩
      rw [List.length_append, List.map_append]
      exact r1
    refine .mov v' rfl rfl (.inr rfl) rfl (by decide) ?_
    walk_nrm
    refine .ctl rfl rfl (fun _ => stepG_region_end) ?_
    refine .ctl rfl rfl (fun _ => stepG_inBlock) ?_
    refine .ctl rfl rfl (fun _ => stepG_region) ?_
    walk_nrm
    refine .val (.int .i64 ((j + 1 : Nat) : Int)) rfl rfl (by decide) (fun w2 _ => by go_simp; rw [IntKind.wrap_i64]; omega) (fun w2 _ => by simp [go_sem]) ?_
    walk_nrm
    refine .mov (.int .i64 ((j + 1 : Nat) : Int)) rfl rfl (.inl rfl) rfl (by decide) ?_
    walk_nrm
    refine .ctl rfl rfl (fun _ => stepG_region_end) ?_
    refine .ctl rfl rfl (fun _ => stepG_inLoop) ?_
    have hget : ∀ (i c' : Nat), (cl ++ [c])[i]? = some c' → cl[i]? = some c' ∨ (i = j ∧ c' = c) := by
      intro i c' h
      rcases Nat.lt_or_ge i cl.length with hi | hi
      · rw [List.getElem?_append_left hi] at h; exact .inl h
      · rw [List.getElem?_append_right hi] at h
        have : i - cl.length = 0 := by
          rcases Nat.eq_zero_or_pos (i - cl.length) with e | e
          · exact e
          · rw [List.getElem?_eq_none (by simp; omega)] at h; cases h
        rw [this] at h
        simp only [List.getElem?_cons_zero, Option.some.injEq] at h
        exact .inr ⟨by omega, h.symm⟩
    have hnew : (cl ++ [c])[j]? = some c := by rw [List.getElem?_append_right (by omega)]; simp [hcl]
    refine ih (j + 1) (by omega) _ w9 _ (cl ++ [c]) v' _ _ _ _ _ _ _ _ _ _ _ _ _ (by simp [hcl]) hM9 ⟨fun i d _ hd => ?_, fun d o hd => ?_, fun i i' d h1 h2 => ?_⟩ fun i d hd => ?_
    · rcases hget i d hd with h | ⟨rfl, rfl⟩
      · rw [put_ne _ _ (by have := hcnew i d h; omega)]
        exact hE.there i d (Nat.zero_le _) h
      · exact put_same _ _ _
    · by_cases e : d = c
      · exact ⟨j, Nat.zero_le _, by rw [e]; exact hnew⟩
      · rw [put_ne _ _ e] at hd
        obtain ⟨i, q1, q2⟩ := hE.only d o hd
        exact ⟨i, q1, by rw [List.getElem?_append_left (List.getElem?_eq_some_iff.1 q2).1]; exact q2⟩
    · rcases hget i d h1 with h | ⟨rfl, rfl⟩ <;> rcases hget i' d h2 with h' | ⟨rfl, h'⟩
      · exact hE.once i i' d h h'
      · have := hcnew i d h; omega
      · have := hcnew i' d h'; omega
      · rfl
    · have hsz9 : w7.heap.size ≤ w9.heap.size := Nat.le_trans k8.size r3.size
      rcases hget i d hd with h | ⟨_, rfl⟩
      · have := hcnew i d h; omega
      · omega
end Go.Proofs.Ytgeoffpcmkofkaa
/- Beside goroutines that only leave: operations, calls in which blocks are numbered anew, and the start of others. -/
namespace Go.Proofs.Ytgeoffpcmkofkaa
open Go Go.Conc

section
variable {P : Program} {Post : Value → World → Prop} {fr fr1 : Frame} {cs cs1 : List Frame} {w w1 : World}
theorem Same.keeps {O S : Nat → Prop} {w' : World} (h : Same w w') : Keeps O S w w' := ⟨by rw [h.heap]; exact Nat.le_refl _, fun r _ => by rw [h.heap], h.os, h.output⟩
theorem evP_of_evO {O S : Nat → Prop} {N : Nat} {e : Event} (h : EvO O S e) (hlow : ∀ r, O r ∨ S r → r < N) : EvP N e := by
  rcases h with ⟨a, rfl, hb⟩ | ⟨a, rfl, hb⟩ | ⟨m, rfl, hm⟩ | ⟨r, rfl, hb⟩
  · exact evP_cell _ _ _ (hlow _ hb)
  · exact evP_cell _ _ _ (hlow _ (.inl hb))
  · rcases hm with rfl | ⟨f, rfl⟩ <;> exact ⟨fun _ _ h => h.elim, by simp, by simp, trivial⟩
  · exact evP_obj _ _ _ (hlow _ (.inl hb))
/-- A call in which blocks are numbered anew. -/
theorem A.of_runs {S O : Nat → Prop} {base : List Frame} {FinR : (Nat → Prop) → Frame → World → Prop} (h : Runs P S base FinR O fr cs w) : (∀ r, O r ∨ S r → r < w.heap.size) →
    (∀ O' fr w', fr.mode = .returning → (∀ w2, Keeps O' S w' w2 → FinR O' fr w2) → (∀ r, O' r → O r ∨ w.heap.size ≤ r) → (∀ r, O' r ∨ S r → r < w'.heap.size) → w.heap.size ≤ w'.heap.size → w'.os = w.os → w'.output = w.output → (∀ r, r < w.heap.size → ¬O r → w'.heap[r]? = w.heap[r]?) → A P Post fr base w') → A P Post fr cs w := by
  induction h with
  | @done O fr w hm hfin => exact fun hlow hf => hf O fr w hm hfin (fun r hr => .inl hr) hlow (Nat.le_refl _) rfl rfl fun _ _ _ => rfl
  | @step O fr cs w h1 h2 ih =>
    intro hlow hf
    refine .one fun w' hs => ?_
    obtain ⟨fr1, cs1, w1, es, k1, k2, k3, k4⟩ := h1 w' hs.keeps
    have hsz : w'.heap.size = w.heap.size := by rw [hs.heap]
    have hlow1 : ∀ r, own O w' w1 r ∨ S r → r < w1.heap.size := by
      intro r hr
      rcases hr with (hr | hr) | hr
      · have := hlow r (.inl hr); have := k3.size; omega
      · exact hr.2
      · have := hlow r (.inr hr); have := k3.size; omega
    refine ⟨fr1, cs1, w1, es, k2 true .running none, fun e he => evP_of_evO (k4 e he) hlow1, k3.size, ?_⟩
    refine ih w' fr1 cs1 w1 es hs.keeps k1 hlow1 fun O' fr w2 q1 q2 q3 q4 q5 q6 q7 q8 => ?_
    refine hf O' fr w2 q1 q2 (fun r hr => ?_) q4 (by have := k3.size; omega) (by rw [q6, k3.os, hs.os]) (by rw [q7, k3.output, hs.output]) fun r hr hn => ?_
    · rcases q3 r hr with (h | h) | h
      · exact .inl h
      · exact .inr (by omega)
      · exact .inr (by have := k3.size; omega)
    · rw [q8 r (by have := k3.size; omega) fun ho => ?_, k3.kept r (by omega) hn, hs.heap]
      rcases ho with ho | ho
      · exact hn ho
      · omega
/-- Others are started, and all that they send is taken. -/
theorem A.of_MB {Fin : Goroutine → World → Prop} (h : ∀ w', Same w w' → MB P (· < w.heap.size) Fin (fun _ => none) none (fun _ => False) (G fr cs) w')
    (hf : ∀ a w', Fin a w' → ∃ fr' cs', a = G fr' cs' ∧ A P Post fr' cs' w') : A P Post fr cs w := by
  intro gs w' sl t q off hs h0 hL hP
  have hsz : w'.heap.size = w.heap.size := by rw [hs.heap]
  have hlt : 0 < gs.size := (Array.getElem?_eq_some_iff.1 h0).1
  have hlive : LiveG gs.size gs.size = (· = 0) := by
    funext g
    refine propext ⟨fun h => h.elim id fun h => by omega, .inl⟩
  refine crowd_fine (n0 := gs.size) (Post := Post) (fun a gs w2 sl t q off hfin h0 hL hP => ?_) (h w' hs) [] q gs w' sl t (fun _ _ => False) (fun _ => w') true ?_
  · obtain ⟨fr', cs', rfl, hA⟩ := hf a w2 hfin
    exact hA gs w2 sl t q off (Same.refl _) h0 hL hP
  · refine ⟨hlt, by simp, fun i g h1 _ hg => hL.old i g h1 hg, hL.above, .inl ⟨rfl, off, h0⟩, rfl, rfl, (fun j x hx => by simp at hx), (fun j x hx => by simp at hx), (fun i j x y hx => by simp at hx), (fun c hc => by cases hc), (fun c o hc => by cases hc), ?_⟩
    refine ⟨⟨fun _ _ _ _ _ h => h.elim, fun _ _ _ h => h.elim, fun _ _ _ h => h.elim, fun b ⟨j, x, hx, _⟩ => by simp at hx⟩, fun _ _ _ h => h.elim, fun b hb => by rw [hsz]; exact hb, fun b ⟨j, x, hx, _⟩ => by simp at hx, fun g _ => Keeps.refl _ _ _, ?_⟩
    rw [hlive]
    exact TB.ofPast hP
end
section
variable {P : Program} {Post : Value → World → Prop} {FS : FuncId → Prop} {b : Frame} {a : Act} {ops : Array Oper} {i : Nat} {rest : List Nat} {o : Oper} {k : List Item} {cs : List Frame} {w : World}
theorem ev_plain (HF : ∀ f, FS f → FuncP P f) (hop : OpP P FS o.op) {n : Next} {w' w1 : World} (hr : (execOp a.eval o).run P w' = .ok n w1) : (∀ e ∈ listed P b.fn a o w', EvP w1.heap.size e) ∧ w'.heap.size ≤ w1.heap.size := by
  have hr' : (execOp a.eval o).runT P w' #[] = (.ok n w1, (execOp a.eval o).events P w' #[]) := by
    have := Sem.runT_eq P (execOp a.eval o) w' #[]
    rw [this, hr]
  have g := (p_execOp HF (fun f => rfl) hop).run_mv hr'
  refine ⟨fun e he => ?_, g.size⟩
  rcases g.low e (mem_listed he) with h | h
  · simp at h
  · exact h
/-- An operation that yields a value. -/
theorem A.op (HF : ∀ f, FS f → FuncP P f) (ho : ops[i]? = some o) (hw : Region.wanted o (yielded ops a.tmps) = true) (hk : b.kind ≠ .early) (hop : OpP P FS o.op)
    (h : ∀ w', Same w w' → ∃ v w1, (execOp a.eval o).run P w' = .ok (.value v) w1 ∧ A P Post (b.at (a.put o.dst v) (.inRegion ops rest :: k)) cs w1) : A P Post (b.at a (.inRegion ops (i :: rest) :: k)) cs w := by
  refine .one fun w' hs => ?_
  obtain ⟨v, w1, hr, hA⟩ := h w' hs
  obtain ⟨h1, h2⟩ := ev_plain (b := b) HF hop hr
  exact ⟨_, _, w1, _, stepG_value ho hw hk hr, h1, h2, hA⟩
/-- .. that yields nothing. -/
theorem A.skp (HF : ∀ f, FS f → FuncP P f) (ho : ops[i]? = some o) (hw : Region.wanted o (yielded ops a.tmps) = true) (hk : b.kind ≠ .early) (hop : OpP P FS o.op)
    (h : ∀ w', Same w w' → ∃ w1, (execOp a.eval o).run P w' = .ok .skip w1 ∧ A P Post (b.at (a.put o.dst undef) (.inRegion ops rest :: k)) cs w1) : A P Post (b.at a (.inRegion ops (i :: rest) :: k)) cs w := by
  refine .one fun w' hs => ?_
  obtain ⟨w1, hr, hA⟩ := h w' hs
  obtain ⟨h1, h2⟩ := ev_plain (b := b) HF hop hr
  exact ⟨_, _, w1, _, stepG_none ho hw hk hr, h1, h2, hA⟩
/-- .. that leaves memory alone. -/
theorem A.val (v : Value) (HF : ∀ f, FS f → FuncP P f) (ho : ops[i]? = some o) (hw : Region.wanted o (yielded ops a.tmps) = true) (hk : b.kind ≠ .early) (hop : OpP P FS o.op) (hr : ∀ w', Same w w' → (execOp a.eval o).run P w' = .ok (.value v) w')
    (h : A P Post (b.at (a.put o.dst v) (.inRegion ops rest :: k)) cs w) : A P Post (b.at a (.inRegion ops (i :: rest) :: k)) cs w :=
  .op HF ho hw hk hop fun w' hs => ⟨v, w', hr w' hs, h.same hs⟩
theorem A.mov {x : Operand} (v : Value) (ho : ops[i]? = some o) (hw : Region.wanted o (yielded ops a.tmps) = true) (hop : o.op = .move x ∨ o.op = .assign x) (hv : a.eval x = v) (hk : b.kind ≠ .early)
    (h : A P Post (b.at (a.put o.dst v) (.inRegion ops rest :: k)) cs w) : A P Post (b.at a (.inRegion ops (i :: rest) :: k)) cs w := by
  refine .op (FS := fun _ => False) (fun _ h => h.elim) ho hw hk (by rcases hop with e | e <;> rw [e] <;> trivial) fun w' hs => ⟨v, w', ?_, h.same hs⟩
  rcases hop with e | e <;> (unfold execOp; simp [e, hv])
/-- A function is entered. -/
theorem A.ent {f : FuncId} {xs : Array Value} (ho : ops[i]? = some o) (hw : Region.wanted o (yielded ops a.tmps) = true) (hk : b.kind ≠ .early) (hr : ∀ w', (execOp a.eval o).run P w' = .ok (.enter f xs) w') (he : ∀ w', (execOp a.eval o).events P w' #[] = #[])
    (h : A P Post (Frame.enter P f xs .normal) (b.at a (.inRegion ops (i :: rest) :: k) :: cs) w) : A P Post (b.at a (.inRegion ops (i :: rest) :: k)) cs w := by
  refine .one fun w' hs => ⟨_, _, w', _, stepG_enter ho hw hk (hr w'), fun e hh => ?_, Nat.le_refl _, h.same hs⟩
  have := mem_listed hh
  rw [he w'] at this
  simp at this
end
end Go.Proofs.Ytgeoffpcmkofkaa
/- The corners of some points, worked out in company. -/
namespace Go.Proofs.Ytgeoffpcmkofkaa
open Go Go.Conc Go.RowKit

/-- A row of points that is not the one that was read. -/
def RowQ (r0 : Nat) (v : Value) (w : World) (out : Pts) : Prop := (v = .slice none 0 0 ∧ out = []) ∨ ∃ g cap, v = .slice (some ⟨g, 0, none⟩) out.length cap ∧ g ≠ r0 ∧ PtsAt w g 0 out
/-- What 'around' does, alone, with a row that may not be written. -/
def AroundC (r0 off n cap : Nat) (c : Array Value) (out : Pts) : Prop := ∀ wl : World, wl.heap[r0]? = some (.cells c 23 (0, c.size)) → Calls Try.prog 70 #[.slice (some ⟨r0, off, none⟩) n cap] wl fun e w' => ∃ v, e = .returned v ∧ RowQ r0 v w' out
/-- .. and with none. -/
def AroundN (out : Pts) : Prop := ∀ wl : World, Calls Try.prog 70 #[.slice none 0 0] wl fun e w' => ∃ v, e = .returned v ∧ RowQ 0 v w' out
noncomputable abbrev GN : Nat := Try.prog.globals.size
section
variable {L : Nat} {FS : FuncId → Prop} {O S : Nat → Prop} {B : BR} {wl w : World} {v v' : Value} {out : Pts} {r0 : Nat}
theorem row_fin {Sh : Nat → Prop} (hSh : ∀ r, Sh r → r = r0) (hH : Has Sh B O S) (hw : WR L FS Sh B wl w) (hv : VR L FS B v v') (hq : RowQ r0 v wl out) : RowO O w v' out := by
  rcases hq with ⟨rfl, rfl⟩ | ⟨g, cap, rfl, hg, hp⟩
  · cases hv
    exact .inl ⟨rfl, rfl⟩
  · cases hv with
    | slice l c ha =>
      rename_i a'
      obtain ⟨b', o', s'⟩ := a'
      have h1 : o' = 0 := ha.off
      have h2 : s' = none := ha.spot
      subst h1 h2
      have hB : B g b' := ha.block
      refine .inr ⟨b', cap, rfl, (hH g b' hB).2 fun h => hg (hSh g h), fun i hi => ?_⟩
      obtain ⟨q1, q2⟩ := hp i hi
      have a1 : AR L B (⟨g, 0 + i * 2, none⟩ : Addr) ⟨b', 0 + i * 2, none⟩ := ⟨hB, rfl, rfl, ha.low⟩
      have a2 : AR L B (⟨g, 0 + i * 2 + 1, none⟩ : Addr) ⟨b', 0 + i * 2 + 1, none⟩ := ⟨hB, rfl, rfl, ha.low⟩
      obtain ⟨x, e1, e2⟩ := hw.cell a1 q1
      obtain ⟨y, e3, e4⟩ := hw.cell a2 q2
      cases e2
      cases e4
      exact ⟨e1, e3⟩
theorem ints_rel {c : Array Value} (h : ∀ x ∈ c.toList, ∃ n, x = .int .i64 n) (B : BR) : VRs L FS B c.toList c.toList := by
  generalize c.toList = l at h
  induction l with
  | nil => exact .nil
  | cons x l ih =>
    obtain ⟨n, rfl⟩ := h x (by simp)
    exact .cons (.int _ _) (ih fun y hy => h y (by simp [hy]))
theorem rowQ_on {T : Nat → Question → Nat} (h : RowQ r0 v w out) : RowQ r0 v (on w T) out := h
end
theorem fs70 : FSof fsB 70 := by decide
/-- The call, in company: it runs to its end. -/
theorem around_runs {r0 off n cap N : Nat} {c : Array Value} {out : Pts} {w : World} (hC : AroundC r0 off n cap c out) (hw : w.heap[r0]? = some (.cells c 23 (0, 0))) (hc : ∀ x ∈ c.toList, ∃ n, x = .int .i64 n) (hG : GN ≤ w.heap.size) (hr : GN ≤ r0) (hN : r0 < N) (base : List Frame) :
    Runs Try.prog (· < N) base (FinV GN (FSof fsB) (· = r0) Try.prog (· < N) (PostV Try.prog 70 fun v w' => RowQ r0 v w' out)) (fun _ => False) (Frame.enter Try.prog 70 #[.slice (some ⟨r0, off, none⟩) n cap] .normal) base w := by
  have hlt : r0 < w.heap.size := (Array.getElem?_eq_some_iff.1 hw).1
  refine runs_of_calls (G := GN) (FS := FSof fsB) (Sh := (· = r0)) (Q := fun v w' => RowQ r0 v w' out) (openOK (Nat.le_refl _)) bodies noEarly fs70 (B := fun r r' => r = r0 ∧ r' = r0) (xs := #[.slice (some ⟨r0, off, none⟩) n cap]) ?_ (iced_WR (c := c) (e := 23) hw hG fun B => ints_rel hc B) (fun r r' hb => ⟨fun _ => by rw [hb.2]; exact hN, fun h => absurd hb.1 h⟩) (fun v w T h => rowQ_on h) (fun T => hC (on (iced w r0 c 23) T) (iced_at hlt)) base
  exact .cons (.slice _ _ ⟨⟨rfl, rfl⟩, rfl, rfl, hr⟩) .nil
theorem around_fin {r0 N : Nat} {out : Pts} {O : Nat → Prop} {fr : Frame} {w : World} (hm : fr.mode = .returning) (h : ∀ w2, Keeps O (· < N) w w2 → FinV GN (FSof fsB) (· = r0) Try.prog (· < N) (PostV Try.prog 70 fun v w' => RowQ r0 v w' out) O fr w2) :
    ∃ v', RowO O w v' out ∧ ∀ main w2 c rest, stepG Try.prog main (G fr (c :: rest)) w2 = .go (G (c.finish v') rest) w2 #[] := by
  obtain ⟨v', h1, h2⟩ := fin_ret2 bodies fs70 h hm
  obtain ⟨B, v, wl, q1, q2, q3, q4⟩ := h1 w (Keeps.refl _ _ _)
  exact ⟨v', row_fin (fun r h => h) q1 q2 q3 q4, fun main w2 c rest => h2 w2 main c rest⟩
/-- One that works a part's corners out and sends them. -/
theorem kid71 {r0 off n cap N ch : Nat} {c : Array Value} {out : Pts} {w : World} (hC : AroundC r0 off n cap c out) (hw : w.heap[r0]? = some (.cells c 23 (0, 0))) (hc : ∀ x ∈ c.toList, ∃ n, x = .int .i64 n) (hG : GN ≤ w.heap.size) (hr : GN ≤ r0) (hN : r0 < N) (hlen : out.length ≤ 1000) :
    KT Try.prog (· < N) ch (out.map ptV) (fun _ => False) (born Try.prog (dcall 91 #[.slice (some ⟨r0, off, none⟩) n cap, .chan (some ch)])) w := by
  refine kid91 hlen (fun base w2 k => around_runs hC (by rw [k.block r0 (.inr hN)]; exact hw) hc (Nat.le_trans hG k.size) hr hN base) fun O fr w2 hm hf => ?_
  obtain ⟨v', h1, h2⟩ := around_fin hm hf
  exact ⟨v', h1, fun w2 c rest => h2 false w2 c rest⟩
/-- The main goroutine calls it. -/
theorem A.around {Post : Value → World → Prop} {r0 off n cap : Nat} {c : Array Value} {out : Pts} {w : World} {x : Frame} {cs : List Frame} (hC : AroundC r0 off n cap c out) (hw : w.heap[r0]? = some (.cells c 23 (0, 0))) (hc : ∀ x ∈ c.toList, ∃ n, x = .int .i64 n) (hr : GN ≤ r0)
    (h : ∀ v w', RowO (w.heap.size ≤ ·) w' v out → w.heap.size ≤ w'.heap.size → w'.os = w.os → w'.output = w.output → (∀ r, r < w.heap.size → w'.heap[r]? = w.heap[r]?) → A Try.prog Post (x.finish v) cs w') :
    A Try.prog Post (Frame.enter Try.prog 70 #[.slice (some ⟨r0, off, none⟩) n cap] .normal) (x :: cs) w := by
  have hlt : r0 < w.heap.size := (Array.getElem?_eq_some_iff.1 hw).1
  have hR := around_runs (N := w.heap.size) hC hw hc (by omega) hr hlt (x :: cs)
  refine A.of_runs hR (fun r hr => hr.elim (fun h => h.elim) id) fun O' fr w' hm hf q1 q2 q3 q4 q5 q6 => ?_
  obtain ⟨v', h1, h2⟩ := around_fin hm hf
  refine .ctl (fun w2 => h2 true w2 x cs) (h v' w' ?_ q3 q4 q5 fun r hr => q6 r hr fun h => h.elim)
  exact h1.imp id fun ⟨g, cap, e1, e2, e3⟩ => ⟨g, cap, e1, (q1 g e2).elim (fun h => h.elim) id, e3⟩
end Go.Proofs.Ytgeoffpcmkofkaa
/- A piece of a function's code that has a lone contract, beside goroutines that only leave. -/
namespace Go.Proofs.Ytgeoffpcmkofkaa
open Go Go.Conc

/-- More to do behind it. -/
def more (k : List Item) (fr : Frame) : Frame := { fr with todo := fr.todo ++ k }
/-- .. in the frame under all. -/
def moreL (k : List Item) : List Frame → List Frame
  | [] => []
  | [x] => [more k x]
  | x :: y :: l => x :: moreL k (y :: l)
def moreF (k : List Item) (fr : Frame) : List Frame → Frame
  | [] => more k fr
  | _ :: _ => fr
theorem moreL_cons (k : List Item) (fr : Frame) : ∀ l : List Frame, moreL k (fr :: l) = moreF k fr l :: moreL k l
  | [] => rfl
  | _ :: _ => rfl
theorem exitTo_more {id : Nat} (k2 : List Item) : ∀ {k k' : List Item}, exitTo id k = some k' → exitTo id (k ++ k2) = some (k' ++ k2)
  | [], k', h => by simp [exitTo] at h
  | it :: k, k', h => by
    cases it with
    | inBlock id' =>
      simp only [exitTo, List.cons_append] at h ⊢
      split at h
      · rename_i e; injection h with h; subst h; rw [if_pos e]
      · rename_i e; rw [if_neg e]; exact exitTo_more k2 h
    | _ => simpa only [exitTo, List.cons_append] using exitTo_more k2 (by simpa only [exitTo] using h)
theorem more_finish {fr : Frame} {ops : Array Oper} {i : Nat} {rest : List Nat} {k0 : List Item} (k : List Item) (ht : fr.todo = .inRegion ops (i :: rest) :: k0) (v : Value) : (more k fr).finish v = more k (fr.finish v) := by
  unfold more Frame.finish
  simp only [ht, List.cons_append]
section
variable {P : Program} {FS : FuncId → Prop} {Post : Value → World → Prop}
theorem ctl_more {fr fr1 : Frame} (k2 : List Item) (hf : FP P FS fr) (hne : fr.todo ≠ []) (hc : ctl fr = some fr1) : ctl (more k2 fr) = some (more k2 fr1) := by
  have hi := hf.todo
  unfold ctl at hc ⊢
  cases ht : fr.todo with
  | nil => exact absurd ht hne
  | cons it k =>
    have h0 := hi it (by rw [ht]; simp)
    rw [ht] at hc
    have e : (more k2 fr).todo = it :: (k ++ k2) := by simp [more, ht]
    rw [e]
    cases it with
    | inBlock id => injection hc with hc; subst hc; rfl
    | inLoop b => injection hc with hc; subst hc; rfl
    | inScope b => exact h0.elim
    | inRangeFunc l => exact h0.elim
    | endRangeFunc l => exact h0.elim
    | beginRound => exact h0.elim
    | call => exact h0.elim
    | extern => exact h0.elim
    | inRegion ops todo =>
      cases todo with
      | nil => injection hc with hc; subst hc; rfl
      | cons i rest =>
        simp only at hc ⊢
        split at hc
        · cases hc
        · rename_i hw
          injection hc with hc
          subst hc
          rw [if_neg (by exact hw), more_finish k2 ht]
    | code c =>
      cases c with
      | skip => injection hc with hc; subst hc; rfl
      | ret => injection hc with hc; subst hc; simp [more]
      | label l => exact h0.elim
      | seq a b => injection hc with hc; subst hc; rfl
      | block id b => injection hc with hc; subst hc; rfl
      | loop b => injection hc with hc; subst hc; rfl
      | scope b => exact h0.elim
      | rangeFunc => exact h0.elim
      | refuse why => exact h0.elim
      | goto l => exact h0.elim
      | region id ops draw =>
        cases draw with
        | false => injection hc with hc; subst hc; rfl
        | true => cases hc
      | cond c a b =>
        have ee : (more k2 fr).eval c = fr.eval c := by cases c <;> rfl
        simp only at hc ⊢
        rw [ee]
        split at hc
        · injection hc with hc; subst hc; rfl
        · injection hc with hc; subst hc; rfl
        · cases hc
      | exit id =>
        simp only at hc ⊢
        cases he : exitTo id k with
        | none => rw [he] at hc; cases hc
        | some k' =>
          rw [he] at hc
          injection hc with hc
          subst hc
          rw [exitTo_more k2 he]
          rfl
theorem more_eval (k : List Item) (fr : Frame) : (more k fr).eval = fr.eval := funext fun x => by cases x <;> rfl
/-- The steps of a lone run, with more to do behind. -/
theorem StepP.more {fr fr1 : Frame} {l l1 c : List Frame} {w w1 : World} {es : Array Event} (k : List Item) (hf : FP P FS fr) (hl : FPs P FS l) (h : StepP P fr (l ++ [shut P]) w fr1 (l1 ++ [shut P]) w1 es) (hend : fr.mode = .returning → l ≠ []) (hne : l = [] → fr.todo ≠ []) :
    StepP P (moreF k fr l) (moreL k l ++ c) w (moreF k fr1 l1) (moreL k l1 ++ c) w1 es := by
  generalize hcs : l ++ [shut P] = x at h
  generalize hcs1 : l1 ++ [shut P] = y at h
  cases h with
  | ctl h1 h2 =>
    have : l1 = l := by rw [← hcs] at hcs1; simpa using hcs1
    subst this
    cases l1 with
    | nil => exact .ctl h1 (ctl_more k hf (hne rfl) h2)
    | cons y l => exact .ctl h1 h2
  | draw h1 h2 h3 =>
    have : l1 = l := by rw [← hcs] at hcs1; simpa using hcs1
    subst this
    cases l1 with
    | nil =>
      refine StepP.draw (fr := Ytgeoffpcmkofkaa.more k fr) h1 ?_ h3
      show fr.todo ++ k = _
      rw [h2]
      rfl
    | cons y l => exact .draw h1 h2 h3
  | oper h1 h2 h3 h4 h5 h6 =>
    rename_i ops i rest k0 o n es0
    have key : ∀ fr' : Frame, fr' = moreF k fr l → after P fr' (moreL k l ++ c) n = some (moreF k fr1 l1, moreL k l1 ++ c) := by
      rintro fr' rfl
      cases n <;> simp only [after, reduceCtorEq, Option.some.injEq, Prod.mk.injEq] at h6 ⊢
      · obtain ⟨rfl, h7⟩ := h6
        have : l1 = l := by rw [← hcs1, ← hcs] at h7; simpa using h7.symm
        subst this
        cases l1 with
        | nil => exact ⟨more_finish k h2 _, rfl⟩
        | cons y l => exact ⟨rfl, rfl⟩
      · obtain ⟨rfl, h7⟩ := h6
        have : l1 = l := by rw [← hcs1, ← hcs] at h7; simpa using h7.symm
        subst this
        cases l1 with
        | nil => exact ⟨more_finish k h2 _, rfl⟩
        | cons y l => exact ⟨rfl, rfl⟩
      · obtain ⟨rfl, h7⟩ := h6
        have : l1 = fr :: l := by
          rw [← hcs1, ← hcs, ← List.cons_append] at h7
          exact (List.append_cancel_right h7).symm
        subst this
        exact ⟨rfl, by rw [moreL_cons]; rfl⟩
    cases l with
    | nil =>
      have e := more_eval k fr
      refine StepP.oper (fr := Ytgeoffpcmkofkaa.more k fr) (ops := ops) (i := i) (rest := rest) (k := k0 ++ k) h1 ?_ h3 h4 (by rw [e]; exact h5) (key _ rfl)
      show fr.todo ++ k = _
      rw [h2]
      rfl
    | cons z l => exact .oper h1 h2 h3 h4 h5 (key _ rfl)
  | ret h1 h2 h3 =>
    rename_i vv _
    cases l with
    | nil => exact absurd rfl (hend h1)
    | cons z l =>
      simp only [List.cons_append, List.cons.injEq] at hcs
      obtain ⟨rfl, hcs⟩ := hcs
      have : l1 = l := by rw [← hcs] at hcs1; simpa using hcs1
      subst this
      obtain ⟨_, _, ops, i, rest, k0, h7⟩ := hl z (by simp)
      rw [moreL_cons]
      have : moreF k (z.finish vv) l1 = (moreF k z l1).finish vv := by
        cases l1 with
        | nil => exact (more_finish k h7 _).symm
        | cons y l => rfl
      rw [this]
      exact .ret h1 h2 h3
theorem StepP.goesN {main : Bool} {fr fr1 : Frame} {cs cs1 : List Frame} {w w1 : World} {st : GoStatus} {off : Option (Array CommCase × CommShape)} {es : Array Event} (hr : fr.roundOf = none) (hk : fr.kind = .normal) (hd : fr.defers = []) (h : StepP P fr cs w fr1 cs1 w1 es) : stepG P main { frame := fr, callers := cs, status := st, dying := none, offers := off } w = .go { frame := fr1, callers := cs1, status := .running, dying := none } w1 es := by
  cases h with
  | ctl h1 h2 => exact step_ctl h1 hr h2
  | draw h1 h2 h3 => exact step_draw h1 h2 h3
  | oper h1 h2 h3 h4 h5 h6 => exact step_oper h1 hr hk h2 h3 h4 h5 h6
  | ret h1 h2 h3 => exact step_retE h1 hd hk h2 h3
theorem ctl_ret {fr fr1 : Frame} (hm : fr.mode = .run) (hne : fr.todo ≠ []) (hc : Ytgeoffpcmkofkaa.ctl fr = some fr1) (h1 : fr1.mode = .returning) : fr1.todo ≠ [] := by
  unfold Ytgeoffpcmkofkaa.ctl at hc
  split at hc
  · rename_i h; exact absurd h hne
  · injection hc with hc; subst hc; exact hne
  all_goals first
    | (injection hc with hc; subst hc; simp only [hm] at h1; cases h1)
    | (split at hc <;> first
        | (injection hc with hc; subst hc; simp only [hm, finish_mode] at h1; cases h1)
        | (injection hc with hc; subst hc; rw [finish_mode, hm] at h1; cases h1)
        | cases hc)
    | (obtain ⟨k', _, rfl⟩ := Option.map_eq_some_iff.1 hc; simp only [hm] at h1; cases h1)
    | cases hc
theorem StepP.stays {fr fr1 : Frame} {l l1 : List Frame} {w w1 : World} {es : Array Event} (hl : FPs P FS l) (h : StepP P fr (l ++ [shut P]) w fr1 (l1 ++ [shut P]) w1 es) (hend : fr.mode = .returning → l ≠ []) (hne : l = [] → fr.todo ≠ []) (hl1 : l1 = []) (hm1 : fr1.mode = .returning) : fr1.todo ≠ [] := by
  generalize hcs : l ++ [shut P] = x at h
  generalize hcs1 : l1 ++ [shut P] = y at h
  cases h with
  | ctl h1 h2 =>
    have : l1 = l := by rw [← hcs] at hcs1; simpa using hcs1
    subst this
    exact ctl_ret h1 (hne hl1) h2 hm1
  | draw h1 h2 h3 =>
    rw [show _ = FrameMode.run from h1] at hm1
    cases hm1
  | oper h1 h2 h3 h4 h5 h6 =>
    rename_i n _
    cases n <;> simp only [after, reduceCtorEq, Option.some.injEq, Prod.mk.injEq] at h6
    · rw [← h6.1, finish_mode, h1] at hm1; cases hm1
    · rw [← h6.1, finish_mode, h1] at hm1; cases hm1
    · rw [← h6.1] at hm1; simp [Frame.enter] at hm1
  | ret h1 h2 h3 =>
    cases l with
    | nil => exact absurd rfl (hend h1)
    | cons z l =>
      simp only [List.cons_append, List.cons.injEq] at hcs
      obtain ⟨rfl, hcs⟩ := hcs
      rw [finish_mode, (hl z (by simp)).2.1] at hm1
      cases hm1
/-- A lone run, as a tree, beside others, with more to do behind. -/
theorem A.of_ends_more (HB : BodP P FS) {PostF : Frame → World → Prop} {fr : Frame} {l cs : List Frame} {w : World} (k : List Item) (he : EndsP P PostF fr l w) : GoodP P FS fr l → (l = [] → fr.mode = .returning → fr.todo ≠ []) →
    (∀ fr w, FP P FS fr → fr.mode = .run → fr.todo = [] → PostF { fr with mode := .returning } w → A P Post (Ytgeoffpcmkofkaa.more k fr) cs w) →
    (∀ fr w, FP P FS fr → fr.mode = .returning → fr.todo ≠ [] → PostF fr w → A P Post (Ytgeoffpcmkofkaa.more k fr) cs w) → A P Post (moreF k fr l) (moreL k l ++ cs) w := by
  induction he with
  | done hm hp => exact fun hg hne _ hR => hR _ _ hg.2.1 hm (hne rfl hm) hp
  | @step fr l w hend hsome hall ih =>
    intro hg hne hN hR
    by_cases hz : l = [] ∧ fr.todo = []
    · obtain ⟨rfl, ht⟩ := hz
      have hrun : fr.mode = .run := hg.1.elim id fun h => absurd rfl (hend h)
      have hs : StepP P fr ([] ++ [shut P]) (on w w.tape) { fr with mode := .returning } ([] ++ [shut P]) (on w w.tape) #[] := .ctl hrun (by unfold Ytgeoffpcmkofkaa.ctl; rw [ht])
      have he := hall w.tape _ [] _ _ hs
      cases he with
      | done h1 h2 => exact hN fr w hg.2.1 hrun ht h2
      | step h1 _ _ => exact absurd rfl (h1 rfl)
    refine .one fun w' hs => ?_
    obtain ⟨fr1, l1, w1, es, hst⟩ := hsome fun i q => w'.tape (w'.drawn + (i - w.drawn)) q
    obtain ⟨h1, h2, h3, h4, h5⟩ := hst.mvP HB hg.2.1
    obtain ⟨l2, e, hg1⟩ := hg.step HB hend hst
    have : l1 = l2 := by simpa using e
    subst this
    have hst' := h5 w'.tape w'.drawn fun i q _ => by
      show w'.tape (w'.drawn + i) q = w'.tape (w'.drawn + (w.drawn + i - w.drawn)) q
      rw [Nat.add_sub_cancel_left]
    have ew : mv (on w fun i q => w'.tape (w'.drawn + (i - w.drawn)) q) w'.tape w'.drawn = w' := by
      obtain ⟨hh, ho, hu⟩ := hs
      cases w'
      cases w
      simp only at hh ho hu
      subst hh ho hu
      rfl
    rw [ew] at hst'
    have hne2 : l = [] → fr.todo ≠ [] := fun a b => hz ⟨a, b⟩
    have hne1 : l1 = [] → fr1.mode = .returning → fr1.todo ≠ [] := hst.stays hg.2.2 hend hne2
    have hA := ih _ fr1 l1 w1 es hst hg1 hne1 hN hR
    refine ⟨moreF k fr1 l1, moreL k l1 ++ cs, _, es, (hst'.more (c := cs) k hg.2.1 hg.2.2 hend hne2).goesN ?_ ?_ ?_, h4, ?_, hA.same ⟨rfl, rfl, rfl⟩⟩
    · cases l <;> exact hg.2.1.round
    · cases l <;> exact hg.2.1.kind
    · cases l <;> exact hg.2.1.defers
    have : w'.heap.size = w.heap.size := by rw [hs.heap]
    rw [this]
    exact h3
/-- What a piece of code ends in. -/
def PostC (b : Frame) (Q : Act → World → Prop) (fr : Frame) (w : World) : Prop := ∃ a, fr = { b.at a [] with mode := .returning } ∧ Q a w
/-- A piece of code with a lone contract on every tape: it is gone through beside others. -/
theorem A.seg (HB : BodP P FS) (HN : NoEarly P) {b : Frame} {fn : Func} (hb : P.funcs[b.fn]? = some fn) (hbk : b.kind = .normal) {c : Code} (hc : CodeP P FS c) {k : List Item} {cs : List Frame} {a : Act} (ha : a.defers = []) {w : World} {Q : Act → World → Prop}
    (hQ : ∀ a w w', Same w w' → Q a w → Q a w') (h : ∀ w', Same w w' → c.wp P (fun e a w => e = .normal ∧ Q a w) a w') (kN : ∀ a' w', Q a' w' → A P Post (b.at a' k) cs w') : A P Post (b.at a (.code c :: k)) cs w := by
  have hg : GoodP P FS (b.at a [.code c]) [] := ⟨.inl rfl, ⟨⟨fn, hb⟩, fun i hi => by simp [Frame.at] at hi; subst hi; exact hc, ha, hbk, rfl⟩, fun x hx => by simp at hx⟩
  have he : EndsP P (PostC b Q) (b.at a [.code c]) [] w := by
    refine ends_of_reachP HB (fun fr w T hp => ?_) hg fun T => ?_
    · obtain ⟨a, h1, h2⟩ := hp
      exact ⟨a, h1, hQ a w (on w T) ⟨rfl, rfl, rfl⟩ h2⟩
    · obtain ⟨e, a', w', ⟨rfl, hq⟩, harr⟩ := h (on w T) ⟨rfl, rfl, rfl⟩ b [] [shut P]
      obtain ⟨n, hn⟩ : Steps P (lone (b.at a [.code c]) [shut P] (on w T)) (lone { b.at a' [] with mode := .returning } [shut P] w') := Steps.trans harr (.one Go.step_end)
      exact reach_of_runP HB HN rfl (Post := PostC b Q) ⟨a', rfl, hq⟩ n hg hn
  have := A.of_ends_more (Post := Post) (cs := cs) HB k he hg (fun _ h => by cases h) (fun fr w hf hm ht hp => ?_) (fun fr w hf hm ht hp => ?_)
  · exact this
  · obtain ⟨a', h1, h2⟩ := hp
    have e : more k fr = b.at a' k := by
      cases fr
      simp only [Frame.at, Frame.mk.injEq] at h1
      simp only at hm
      obtain ⟨rfl, rfl, rfl, rfl, _, rfl, rfl⟩ := h1
      simp [more, Frame.at, hm]
    rw [e]
    exact kN a' w h2
  · obtain ⟨a', h1, h2⟩ := hp
    exact absurd (by rw [h1]; rfl) ht
/-- What the rest of a function's code ends in. -/
def PostR (b : Frame) (Q : Act → World → Prop) (fr : Frame) (w : World) : Prop := ∃ a todo, fr = { b.at a todo with mode := .returning } ∧ Q a w
/-- The rest of a function's code. -/
theorem A.rest (HB : BodP P FS) (HN : NoEarly P) {b : Frame} {fn : Func} (hb : P.funcs[b.fn]? = some fn) (hbk : b.kind = .normal) {c : Code} (hc : CodeP P FS c) {cs : List Frame} {a : Act} (ha : a.defers = []) {w : World} {Q : Act → World → Prop}
    (hQ : ∀ a w w', Same w w' → Q a w → Q a w') (h : ∀ w', Same w w' → c.wp P (fun e a w => (e = .normal ∨ e = .ret) ∧ Q a w) a w') (kR : ∀ a' w' todo, a'.defers = [] → Q a' w' → A P Post { b.at a' todo with mode := .returning } cs w') : A P Post (b.at a [.code c]) cs w := by
  have hg : GoodP P FS (b.at a [.code c]) [] := ⟨.inl rfl, ⟨⟨fn, hb⟩, fun i hi => by simp [Frame.at] at hi; subst hi; exact hc, ha, hbk, rfl⟩, fun x hx => by simp at hx⟩
  have he : EndsP P (PostR b Q) (b.at a [.code c]) [] w := by
    refine ends_of_reachP HB (fun fr w T hp => ?_) hg fun T => ?_
    · obtain ⟨a, todo, h1, h2⟩ := hp
      exact ⟨a, todo, h1, hQ a w (on w T) ⟨rfl, rfl, rfl⟩ h2⟩
    · obtain ⟨e, a', w', ⟨rfl | rfl, hq⟩, harr⟩ := h (on w T) ⟨rfl, rfl, rfl⟩ b [] [shut P]
      · obtain ⟨n, hn⟩ : Steps P (lone (b.at a [.code c]) [shut P] (on w T)) (lone { b.at a' [] with mode := .returning } [shut P] w') := Steps.trans harr (.one Go.step_end)
        exact reach_of_runP HB HN rfl (Post := PostR b Q) ⟨a', [], rfl, hq⟩ n hg hn
      · obtain ⟨todo, n, hn⟩ := harr
        exact reach_of_runP HB HN rfl (Post := PostR b Q) ⟨a', todo, rfl, hq⟩ n hg hn
  have := A.of_ends (Post := Post) (cs := cs) HB he hg fun fr w hf _ hp => ?_
  · exact this
  · obtain ⟨a', todo, rfl, h2⟩ := hp
    exact kR a' w todo hf.defers h2
end
end Go.Proofs.Ytgeoffpcmkofkaa
