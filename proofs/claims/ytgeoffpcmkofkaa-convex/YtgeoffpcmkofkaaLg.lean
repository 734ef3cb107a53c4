/- The one that starts them: steps of its own. -/
import Derived.Test.YtgeoffpcmkofkaaLf
import Derived.Maps.AppendAt
import Derived.Conc.AppendWalk
import Derived.Conc.SmallLaws
namespace Go.Proofs.Ytgeoffpcmkofkaa
open Go Go.Conc Go.RowKit
set_option maxRecDepth 100000

theorem add_blk (a : Addr) (n : Nat) : (a.add n).block = a.block := by unfold Addr.add; split <;> rfl
section
variable {P : Program} {S : Nat → Prop} {O : Nat → Prop} {w : World} {b : Frame} {a : Act} {ops : Array Oper} {i : Nat} {rest : List Nat} {o : Oper} {k : List Item} {cs : List Frame} {Fin : Goroutine → World → Prop} {E : Nat → Option (List Value)} {R : Option Nat}
theorem MB.val (v : Value) (ho : ops[i]? = some o) (hw : Region.wanted o (yielded ops a.tmps) = true) (hk : b.kind ≠ .early) (hr : ∀ w2, Keeps O S w w2 → (execOp a.eval o).run P w2 = .ok (.value v) w2) (he : ∀ w2, Keeps O S w w2 → ∀ e ∈ (execOp a.eval o).events P w2 #[], EvW O S e)
    (h : MB P S Fin E R O (G (b.at (a.put o.dst v) (.inRegion ops rest :: k)) cs) w) : MB P S Fin E R O (G (b.at a (.inRegion ops (i :: rest) :: k)) cs) w :=
  .look rfl rfl (fun w2 k2 => ⟨_, stepG_value ho hw hk (hr w2 k2), fun e hh => he w2 k2 e (mem_listed hh)⟩) h
theorem MB.mov {x : Operand} (v : Value) (ho : ops[i]? = some o) (hw : Region.wanted o (yielded ops a.tmps) = true) (hop : o.op = .move x ∨ o.op = .assign x) (hv : a.eval x = v) (hk : b.kind ≠ .early)
    (h : MB P S Fin E R O (G (b.at (a.put o.dst v) (.inRegion ops rest :: k)) cs) w) : MB P S Fin E R O (G (b.at a (.inRegion ops (i :: rest) :: k)) cs) w := by
  refine .val v ho hw hk (fun w2 _ => ?_) (fun w2 _ => ?_) h
  · rcases hop with e | e <;> (unfold execOp; simp [e, hv])
  · rcases hop with e | e <;> (unfold execOp; simp [e])
/-- Something new is laid down. -/
theorem MB.newB (ob : Obj) (v : Nat → Value) (ho : ops[i]? = some o) (hw : Region.wanted o (yielded ops a.tmps) = true) (hk : b.kind ≠ .early) (hr : ∀ w2, Keeps O S w w2 → (execOp a.eval o).run P w2 = .ok (.value (v w2.heap.size)) (w2.alloc ob)) (he : ∀ w2, Keeps O S w w2 → (execOp a.eval o).events P w2 #[] = #[])
    (h : ∀ w2, Keeps O S w w2 → MB P S Fin E R (Ytgeoffpcmkofkaa.own O w2 (w2.alloc ob)) (G (b.at (a.put o.dst (v w2.heap.size)) (.inRegion ops rest :: k)) cs) (w2.alloc ob)) : MB P S Fin E R O (G (b.at a (.inRegion ops (i :: rest) :: k)) cs) w :=
  .go1 rfl fun w2 k2 => ⟨_, _, _, stepG_value ho hw hk (hr w2 k2), rfl, did_alloc ob, fun e hh => by
    have := mem_listed hh
    rw [he w2 k2] at this
    simp at this, h w2 k2⟩
theorem owns_keeps {w2 : World} {N e size n : Nat} {v : Value} {xs : List Value} (h : w.ownsRow N e size v n xs) (hO : ∀ g, v.ownBlock = some g → O g) (k : Keeps O S w w2) : w2.ownsRow N e size v n xs := by
  refine ⟨h.1, h.2.imp id fun ⟨g, cap, cur, h1, h2, h3, h4⟩ => ⟨g, cap, cur, h1, h2, ?_, h4⟩⟩
  rw [k.block g (.inl (hO g (by rw [h1]; rfl)))]
  exact h3
/-- All cells of the row are of a kind. -/
def AllRow (Ip : Value → Prop) (w : World) (v : Value) : Prop := ∀ g, v.ownBlock = some g → ∀ c e f, w.heap[g]? = some (.cells c e f) → ∀ x ∈ c.toList, Ip x
theorem append_all {Ip : Value → Prop} {t ty e size bytes N n m c : Nat} {i : TypeInfo} {z v v' : Value} {xs news : List Value} {a : Addr} {w w' : World}
    (ht : P.underlying t = some (.slice e)) (hi : P.info? e = some i) (hz : i.zero = some z) (hsize : i.size = size) (hby : i.bytes = bytes) (hown : w.ownsRow N e size v n xs) (hl : news.length = m * size) (hnews : ∀ j u, news[j]? = some u → w.cell? (a.add j) = some u) (h1 : ∀ u ∈ news, u.oneCell' = true)
    (h63 : n + m ≤ maxLen) (hbytes : (n + m) * bytes ≤ 140737488355328) (hm : m ≠ 0) (hall : AllRow Ip w v) (hzI : ∀ x ∈ z.cells.toList, Ip x) (hnI : ∀ x ∈ news, Ip x) (h : (Builtin.append_ #[t, t] ty #[v, .slice (some a) m c]).run P w = .ok v' w') : AllRow Ip w' v' := by
  subst hsize
  subst hby
  have hsmall : n + m ≤ 9223372036854775807 := by simp only [maxLen] at h63; omega
  have zc : ∀ k x, x ∈ (Builtin.zeroCells z.cells k).toList → Ip x := by
    intro k x hx
    unfold Builtin.zeroCells at hx
    simp only [Array.toList_map, List.mem_map, Array.mem_toList_iff, Array.mem_range] at hx
    obtain ⟨j, hj, rfl⟩ := hx
    have hpos : 0 < z.cells.size := by
      rcases Nat.eq_zero_or_pos z.cells.size with e | e
      · rw [e] at hj; omega
      · exact e
    have hlt := Nat.mod_lt j hpos
    rw [getElem!_pos z.cells (j % z.cells.size) hlt]
    exact hzI _ (by simp)
  have fresh : ∀ (u : World) (cs : Array Value) (vv : Nat → Value), (∀ x ∈ cs.toList, Ip x) → (∀ k, (vv k).ownBlock = some k) → AllRow Ip (u.alloc (.cells cs e)) (vv u.heap.size) := by
    intro u cs vv hcs hv g hg c' e' f' hc
    rw [hv] at hg
    injection hg with hg
    subst hg
    rw [alloc_heap, Array.getElem?_push_size] at hc
    injection hc with hc
    injection hc with hc _ _
    subst hc
    exact hcs
  rcases hown.2 with ⟨rfl, rfl⟩ | ⟨g, cap, cur, rfl, hbg, hg, hnc, hcm, hcs, htake⟩
  · have hr := run_append_nil (P := P) w t ty e i z ht hi hz a m c news hl hnews (by omega) (by omega) (by have hb := hbytes; simp only [Nat.zero_add] at hb; omega)
    rw [hr] at h
    injection h with h2 h3
    subst h2 h3
    refine fresh w.drew _ (fun k => .slice (some ⟨k, 0, none⟩) m _) (fun x hx => ?_) fun _ => rfl
    simp only [Array.toList_append, List.mem_append] at hx
    rcases hx with hx | hx
    · exact hnI x (by simpa using hx)
    · exact zc _ x hx
  · have hcur := hall g rfl cur e (0, 0) hg
    by_cases hroom : n + m ≤ cap
    · have hfit : n * i.size + news.length ≤ cur.size := by rw [hl, hcs, ← Nat.add_mul]; exact Nat.mul_le_mul_right _ hroom
      have hr := run_append_room (P := P) w t ty e i ht hi g n cap cur hg a m c news hl hnews h1 hroom hfit
      rw [hr] at h
      injection h with h2 h3
      subst h2 h3
      intro g' hg' c' e' f' hc x hx
      injection hg' with hg'
      simp only at hg'
      subst hg'
      rw [setRow_heap w g cur _ e _ hg] at hc
      injection hc with hc
      injection hc with hc _ _
      subst hc
      simp only [List.mem_append] at hx
      rcases hx with (hx | hx) | hx
      · exact hcur x (List.mem_of_mem_take hx)
      · exact hnI x hx
      · exact hcur x (List.mem_of_mem_drop hx)
    · have holds : ∀ j u, xs[j]? = some u → w.cell? ((⟨g, 0, none⟩ : Addr).add j) = some u := hown.cells (g := g) rfl
      have hr := run_append_grow (P := P) w t ty e i z ht hi hz ⟨g, 0, none⟩ n cap xs hown.1 holds a m c news hl hnews (by omega) (by omega) (growslice_fits (by omega) hbytes)
      rw [hr] at h
      injection h with h2 h3
      subst h2 h3
      refine fresh w.drew _ (fun k => .slice (some ⟨k, 0, none⟩) (n + m) _) (fun x hx => ?_) fun _ => rfl
      simp only [Array.toList_append, List.mem_append] at hx
      rcases hx with (hx | hx) | hx
      · exact hcur x (by rw [← htake] at hx; exact List.mem_of_mem_take (by simpa using hx))
      · exact hnI x (by simpa using hx)
      · exact zc _ x hx
theorem MB.app {Ip : Value → Prop} {t e size bytes N n m c : Nat} {inf : TypeInfo} {z v : Value} {xs news : List Value} {ad : Addr} (s x : Operand) (ho : ops[i]? = some o) (hw : Region.wanted o (yielded ops a.tmps) = true) (hk : b.kind ≠ .early)
    (hop : o.op = .call { callee := .builtin .append, args := #[s, x], argTypes := #[t, t] }) (hs : a.eval s = v) (hx : a.eval x = .slice (some ad) m c)
    (ht : P.underlying t = some (.slice e)) (hi : P.info? e = some inf) (hz : inf.zero = some z) (hsize : inf.size = size) (hby : inf.bytes = bytes) (hzs : z.cells.size = size) (hsz : 0 < size)
    (hown : w.ownsRow N e size v n xs) (hob : ∀ g, v.ownBlock = some g → O g) (had : O ad.block) (hl : news.length = m * size) (hnews : ∀ j u, news[j]? = some u → w.cell? (ad.add j) = some u) (h1 : ∀ u ∈ news, u.oneCell' = true)
    (h63 : n + m ≤ maxLen) (hbytes : (n + m) * bytes ≤ 140737488355328) (hbase : N ≤ w.heap.size) (hm : m ≠ 0) (hall : AllRow Ip w v) (hzI : ∀ x ∈ z.cells.toList, Ip x) (hnI : ∀ x ∈ news, Ip x)
    (h : ∀ w2 v' w', Keeps O S w w2 → w'.ownsRow N e size v' (n + m) (xs ++ news) → (∀ g, v'.ownBlock = some g → Ytgeoffpcmkofkaa.own O w2 w' g) → DidO O w2 w' → w2.grownBy w' v.ownBlock → (v'.ownBlock = v.ownBlock ∨ v'.ownBlock = some w2.heap.size) → AllRow Ip w' v' → MB P S Fin E R (Ytgeoffpcmkofkaa.own O w2 w') (G (b.at (a.put o.dst v') (.inRegion ops rest :: k)) cs) w') :
    MB P S Fin E R O (G (b.at a (.inRegion ops (i :: rest) :: k)) cs) w := by
  refine .go1 rfl fun w2 k2 => ?_
  have hown2 := owns_keeps hown hob k2
  have hnews2 : ∀ j u, news[j]? = some u → w2.cell? (ad.add j) = some u := fun j u hj => by
    rw [k2.cell (.inl (by rw [add_blk]; exact had))]
    exact hnews j u hj
  obtain ⟨v', w', k1, k3, k4, k5, k6⟩ := run_append_own_at (P := P) w2 N t o.type e inf z size bytes ht hi hz hsize hby hzs hsz v n xs hown2 ad m c news hl hnews2 h1 h63 hbytes (Nat.le_trans hbase k2.size)
  have hrun : (execOp a.eval o).run P w2 = .ok (.value v') w' := by
    unfold execOp
    simp only [hop, resolve, invoke, builtin, Sem.run_bind, Sem.run_pure, Result.andThen_ok, List.map_toArray, List.map_cons, List.map_nil, hs, hx, k1]
  have hev := events_append_op (P := P) (w := w2) s x t hop hs hx #[]
  have hwhere := events_append_where (P := P) w2 N t o.type e inf z size bytes ht hi hz hsize hby v n xs hown2 ad m c news hl hnews2 h1 h63 hbytes
  have hall2 : AllRow Ip w2 v := fun g hg c e f hc => hall g hg c e f (by rw [← k2.block g (.inl (hob g hg))]; exact hc)
  have hdid : DidO O w2 w' := ⟨k4.os, k4.tape, k4.output, k4.size, fun r hr hn => k4.block r hr fun e => hn (hob r e.symm)⟩
  refine ⟨_, w', _, stepG_value ho hw hk hrun, rfl, hdid, fun ev hh => ?_, h w2 v' w' k2 k3 (fun g hg => ?_) hdid k4 k6 (append_all ht hi hz hsize hby hown2 hl hnews2 h1 h63 hbytes hm hall2 hzI hnI k1)⟩
  · have := mem_listed hh
    rw [hev] at this
    rcases hwhere ev this with ⟨q, q1, q2⟩ | ⟨mk, q1, q2⟩
    · refine .inl ⟨q, q1, .inl (.inl ?_)⟩
      rcases q2 with ⟨_, q2⟩ | q2
      · rw [q2]; exact had
      · exact hob _ q2.symm
    · exact .inr (.inl ⟨mk, q1, .inl q2⟩)
  · rcases k6 with k6 | k6
    · exact .inl (hob g (by rw [← k6]; exact hg))
    · rw [k6] at hg
      injection hg with hg
      subst hg
      refine .inr ⟨Nat.le_refl _, ?_⟩
      rcases k3.2 with ⟨e, _⟩ | ⟨g, cap, cur, e, _, e3, _⟩
      · rw [e] at k6; cases k6
      · rw [e] at k6
        injection k6 with k6
        simp only at k6
        rw [← k6]
        exact (Array.getElem?_eq_some_iff.1 e3).1
end
end Go.Proofs.Ytgeoffpcmkofkaa
