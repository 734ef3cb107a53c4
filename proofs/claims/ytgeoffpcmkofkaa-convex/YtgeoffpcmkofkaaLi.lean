/- The one that starts them: it takes what each of them sends. -/
import Derived.Test.YtgeoffpcmkofkaaLh
namespace Go.Proofs.Ytgeoffpcmkofkaa
open Go Go.Conc Go.RowKit
set_option maxRecDepth 100000

noncomputable def body71b : Code := match Try.f71.body with
  | some (.seq _ (.seq _ (.seq _ (.seq _ (.seq (.seq _ (.block _ (.loop b))) _))))) => b
  | _ => .skip
noncomputable def tail71 : Code := match Try.f71.body with
  | some (.seq _ (.seq _ (.seq _ (.seq _ (.seq _ t))))) => t
  | _ => .skip
/-- What stands in the channels from the j-th on. -/
structure ERs (E : Nat → Option (List Value)) (cl : List Nat) (outs : Nat → Pts) (j : Nat) : Prop where
  there : ∀ (i c : Nat), j ≤ i → cl[i]? = some c → E c = some ((outs i).map ptV)
  only : ∀ c o, E c = some o → ∃ i : Nat, j ≤ i ∧ cl[i]? = some c
  once : ∀ (i i' c : Nat), cl[i]? = some c → cl[i']? = some c → i = i'
def cat (outs : Nat → Pts) (j : Nat) : Pts := (List.range j).flatMap outs
theorem cat_succ (outs : Nat → Pts) (j : Nat) : cat outs (j + 1) = cat outs j ++ outs j := by
  simp [cat, List.range_succ]
theorem cat_le (outs : Nat → Pts) {j m : Nat} (h : j ≤ m) : (cat outs j).length ≤ (cat outs m).length := by
  induction m with
  | zero => have : j = 0 := by omega
            subst this; exact Nat.le_refl _
  | succ m ih =>
    rcases Nat.lt_or_ge j (m + 1) with h1 | h1
    · rw [cat_succ, List.length_append]
      have := ih (by omega)
      omega
    · have : j = m + 1 := by omega
      subst this
      exact Nat.le_refl _
theorem elem105 : Try.prog.underlying 105 = some (.slice (Try.prog.elem 105)) := by kernel_rfl
theorem elem106 : Try.prog.underlying 106 = some (.slice (Try.prog.elem 106)) := by kernel_rfl
set_option maxHeartbeats 1000000 in
theorem all71 {N : Nat} {ws : World} {Fin : Goroutine → World → Prop} {cs : List Frame} {pv : Value} {cl : List Nat} {outs : Nat → Pts} {x0 x1 x4 x5 x6 x8 x11 x12 x13 x14 x15 x16 x17 x18 x19 x20 x21 x22 x23 x24 x25 x41 : Value} {m : Nat} (hm : m ≤ 1000) (hcl : cl.length = m) (hlen : (cat outs m).length ≤ 10000)
    (hFin : ∀ (O : Nat → Prop) (w : World) (av : Value) (tmps : Array Value) (todo : List Item), M1 N ws O w pv cl av (cat outs m) → tmps.getD 2 undef = av → Fin (G { (base 71).at { tmps := tmps, defers := [] } todo with mode := .returning } cs) w) :
    ∀ (d j : Nat), j + d = m → ∀ (O : Nat → Prop) (w : World) (E : Nat → Option (List Value)) (av x9 x10 x29 x30 x31 x32 x33 x34 x35 x36 x37 x38 x39 x40 : Value), M1 N ws O w pv cl av (cat outs j) → ERs E cl outs j →
      MB Try.prog (· < N) Fin E none O (G ((base 71).at { tmps := #[x0, x1, .slice none 0 0, pv, x4, x5, x6, av, x8, x9, x10, x11, x12, x13, x14, x15, x16, x17, x18, x19, x20, x21, x22, x23, x24, x25, pv, .int .i64 (m : Nat), .int .i64 (j : Nat), x29, x30, x31, x32, x33, x34, x35, x36, x37, x38, x39, x40, x41], defers := [] } [.code body71b, .inLoop body71b, .inBlock 2, .code tail71]) cs) w := by
  intro d
  induction d with
  | zero =>
    intro j hj O w E av x9 x10 x29 x30 x31 x32 x33 x34 x35 x36 x37 x38 x39 x40 hM hE
    have hj : j = m := by omega
    subst hj
    simp only [body71b, Try.f71]
    refine .ctl rfl rfl (fun _ => stepG_seq) ?_
    refine .ctl rfl rfl (fun _ => stepG_region) ?_
    walk_nrm
    refine .val (.bool false) rfl rfl (by decide) (fun w2 _ => by go_simp) (fun w2 _ => by simp [go_sem]) ?_
    walk_nrm
    refine .ctl rfl rfl (fun _ => stepG_region_end) ?_
    refine .ctl rfl rfl (fun _ => stepG_seq) ?_
    refine .ctl rfl rfl (fun _ => stepG_cond (t := false) rfl) ?_
    refine .ctl rfl rfl (fun _ => stepG_exit (k' := [.code tail71]) rfl) ?_
    simp only [tail71, Try.f71]
    refine .ctl rfl rfl (fun _ => stepG_seq) ?_
    refine .ctl rfl rfl (fun _ => stepG_region) ?_
    walk_nrm
    refine .mov av rfl rfl (.inl rfl) rfl (by decide) ?_
    walk_nrm
    refine .mov av rfl rfl (.inr rfl) rfl (by decide) ?_
    walk_nrm
    refine .ctl rfl rfl (fun _ => stepG_region_end) ?_
    refine .ctl rfl rfl (fun _ => stepG_ret') ?_
    refine .stop (fun c => ?_) fun w2 k2 => hFin O w2 av _ _ (hM.keeps k2) rfl
    cases hc : E c with
    | none => rfl
    | some o =>
      obtain ⟨i, h1, h2⟩ := hE.only c o hc
      have := (List.getElem?_eq_some_iff.1 h2).1
      omega
  | succ d ih =>
    intro j hj O w E av x9 x10 x29 x30 x31 x32 x33 x34 x35 x36 x37 x38 x39 x40 hM hE
    have hjm : j < m := by omega
    obtain ⟨c, hc⟩ : ∃ c, cl[j]? = some c := ⟨_, List.getElem?_eq_getElem (by omega)⟩
    simp only [body71b, Try.f71]
    refine .ctl rfl rfl (fun _ => stepG_seq) ?_
    refine .ctl rfl rfl (fun _ => stepG_region) ?_
    walk_nrm
    refine .val (.bool true) rfl rfl (by decide) (fun w2 _ => by go_simp) (fun w2 _ => by simp [go_sem]) ?_
    walk_nrm
    refine .ctl rfl rfl (fun _ => stepG_region_end) ?_
    refine .ctl rfl rfl (fun _ => stepG_seq) ?_
    refine .ctl rfl rfl (fun _ => stepG_cond (t := true) rfl) ?_
    refine .ctl rfl rfl (fun _ => stepG_skip) ?_
    refine .ctl rfl rfl (fun _ => stepG_seq) ?_
    refine .ctl rfl rfl (fun _ => stepG_block) ?_
    refine .ctl rfl rfl (fun _ => stepG_seq) ?_
    refine .ctl rfl rfl (fun _ => stepG_region) ?_
    walk_nrm
    obtain ⟨g, cap, hpv, hg, hrow⟩ : ∃ g cap, pv = .slice (some ⟨g, 0, none⟩) m cap ∧ O g ∧ w.cell? ⟨g, j, none⟩ = some (.chan (some c)) := by
      rcases hM.p.2 with ⟨_, e⟩ | ⟨g, cap, cur, e1, e2, e3, e4, e5, e6, e7⟩
      · omega
      · refine ⟨g, cap, by rw [e1, hcl], hM.po g (by rw [e1]; rfl), ?_⟩
        have : cur.toList[j]? = some (.chan (some c)) := by
          have h1 : (cur.toList.take (cl.length * 1))[j]? = some (.chan (some c)) := by
            rw [e7, List.getElem?_map, hc]
            rfl
          rw [List.getElem?_take_of_lt (by omega)] at h1
          exact h1
        simp only [World.cell?, e3]
        simpa using this
    subst hpv
    refine .val (.pointer (some ⟨g, j, none⟩)) rfl rfl (by decide) (fun w2 _ => by go_simp) (fun w2 _ => by simp [go_sem, events_indexAt_slice 105 _ _ _ _ _ elem105 (show (0 : Int) ≤ j ∧ (j : Int) < m by omega)]) ?_
    walk_nrm
    refine .val (.chan (some c)) rfl rfl (by decide) (fun w2 k2 => ?_) (fun w2 k2 => ?_) ?_
    · have h1 := k2.cell (ad := ⟨g, j, none⟩) (.inl hg)
      rw [hrow] at h1
      go_simp
    · have h1 := k2.cell (ad := ⟨g, j, none⟩) (.inl hg)
      rw [hrow] at h1
      intro e he
      simp [go_sem, h1] at he
      subst he
      exact .inl ⟨_, rfl, .inl hg⟩
    walk_nrm
    refine .mov (.chan (some c)) rfl rfl (.inr rfl) rfl (by decide) ?_
    walk_nrm
    refine .ctl rfl rfl (fun _ => stepG_region_end) ?_
    refine .ctl rfl rfl (fun _ => stepG_seq) ?_
    refine .ctl rfl rfl (fun _ => stepG_region) ?_
    walk_nrm
    refine .mov (.chan (some c)) rfl rfl (.inl rfl) rfl (by decide) ?_
    walk_nrm
    refine .ctl rfl rfl (fun _ => stepG_region_end) ?_
    refine .ctl rfl rfl (fun _ => stepG_block) ?_
    refine .ctl rfl rfl (fun _ => stepG_loop) ?_
    have hle : (cat outs j).length + (outs j).length ≤ 100000 := by
      have := cat_le outs (show j + 1 ≤ m by omega)
      rw [cat_succ, List.length_append] at this
      omega
    refine take71 (c := c) (outs j) (cat outs j) hle O w E av _ _ _ _ _ _ _ _ hM (hE.there j c (Nat.le_refl _) hc) fun O w E' av y10 y33 y34 y35 y36 y37 y38 y39 hM' h1 h2 => ?_
    refine .ctl rfl rfl (fun _ => stepG_inBlock) ?_
    refine .ctl rfl rfl (fun _ => stepG_region) ?_
    walk_nrm
    refine .val (.int .i64 ((j + 1 : Nat) : Int)) rfl rfl (by decide) (fun w2 _ => by go_simp; rw [IntKind.wrap_i64]; omega) (fun w2 _ => by simp [go_sem]) ?_
    walk_nrm
    refine .mov (.int .i64 ((j + 1 : Nat) : Int)) rfl rfl (.inl rfl) rfl (by decide) ?_
    walk_nrm
    refine .ctl rfl rfl (fun _ => stepG_region_end) ?_
    refine .ctl rfl rfl (fun _ => stepG_inLoop) ?_
    refine ih (j + 1) (by omega) O w E' av _ _ _ _ _ _ _ _ _ _ _ _ _ _ (by rw [cat_succ]; exact hM') ⟨fun i d hi hd => ?_, fun d o hd => ?_, hE.once⟩
    · have : d ≠ c := by
        rintro rfl
        have := hE.once i j d hd hc
        omega
      rw [h2 d this]
      exact hE.there i d (by omega) hd
    · by_cases e : d = c
      · rw [e, h1] at hd; cases hd
      · rw [h2 d e] at hd
        obtain ⟨i, q1, q2⟩ := hE.only d o hd
        refine ⟨i, ?_, q2⟩
        rcases Nat.lt_or_ge j i with h | h
        · exact h
        · have : i = j := by omega
          subst this
          rw [hc] at q2
          injection q2 with q2
          exact absurd q2.symm e
end Go.Proofs.Ytgeoffpcmkofkaa
