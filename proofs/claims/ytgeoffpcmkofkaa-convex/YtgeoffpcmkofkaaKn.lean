/- A step of the lone run is matched by a step of the other. -/
import Derived.Test.YtgeoffpcmkofkaaKm
namespace Go.Proofs.Ytgeoffpcmkofkaa
open Go

section
variable {G : Nat} {FS : FuncId → Prop} {Sh : Nat → Prop} {P : Program} {B : BR}
theorem exitTo_sub {id : Nat} : ∀ {k k' : List Item}, exitTo id k = some k' → ∀ i ∈ k', i ∈ k
  | [], k', h => by simp [exitTo] at h
  | it :: k, k', h => by
    intro i hi
    cases it with
    | inBlock id' =>
      simp only [exitTo] at h
      split at h
      · injection h with h; subst h; exact List.mem_cons_of_mem _ hi
      · exact List.mem_cons_of_mem _ (exitTo_sub h i hi)
    | _ => exact List.mem_cons_of_mem _ (exitTo_sub (by simpa only [exitTo] using h) i hi)
theorem findLabel_tame {l : Nat} : ∀ {c r : Code}, findLabel c l = some r → CodeT G FS P c → CodeT G FS P r
  | .seq a b, r, h, hc => by
    simp only [findLabel] at h
    split at h
    · rename_i r' hr
      injection h with h
      subst h
      exact ⟨findLabel_tame hr hc.1, hc.2⟩
    · exact findLabel_tame h hc.2
  | .label l', r, h, _ => by
    simp only [findLabel] at h
    split at h
    · injection h with h; subst h; trivial
    · cases h
  | .skip, _, h, _ | .region .., _, h, _ | .cond .., _, h, _ | .block .., _, h, _ | .loop .., _, h, _ | .rangeFunc .., _, h, _ | .exit .., _, h, _ | .scope .., _, h, _ | .goto .., _, h, _ | .ret, _, h, _ | .refuse .., _, h, _ => by simp [findLabel] at h
theorem gotoIn_tame {l : Nat} : ∀ {k k' : List Item}, gotoIn l k = some k' → (∀ i ∈ k, ItemT G FS P i) → ∀ i ∈ k', ItemT G FS P i
  | [], k', h, _ => by simp [gotoIn] at h
  | it :: k, k', h, hk => by
    have hk' : ∀ i ∈ k, ItemT G FS P i := fun i hi => hk i (List.mem_cons_of_mem _ hi)
    cases it with
    | inScope b =>
      simp only [gotoIn] at h
      split at h
      · rename_i r hr
        injection h with h
        subst h
        intro i hi
        have hb : CodeT G FS P b := hk (.inScope b) (by simp)
        rcases List.mem_cons.1 hi with rfl | hi
        · exact findLabel_tame hr hb
        · exact hk i hi
      · exact gotoIn_tame h hk'
    | _ => exact gotoIn_tame (by simpa only [gotoIn] using h) hk'
theorem VR.undef : VR G FS B undef undef := .tuple .nil
theorem VRs.getD {a a' : Array Value} (h : VRs G FS B a.toList a'.toList) (t : Nat) : VR G FS B (a.getD t undef) (a'.getD t undef) := by
  cases hv : a[t]? with
  | none =>
    have h' : a'[t]? = Option.none := by
      have := h.none (i := t) (by simpa using hv)
      simpa using this
    simp only [Array.getD_eq_getD_getElem?, hv, h', Option.getD_none]
    exact VR.undef
  | some v =>
    obtain ⟨v', h1, h2⟩ := VR.get h hv
    simp only [Array.getD_eq_getD_getElem?, hv, h1, Option.getD_some]
    exact h2
theorem FR.eval {fr fr' : Frame} (h : FR G FS P B fr fr') (x : Operand) (hx : OperOK G FS x) : VR G FS B (fr.eval x) (fr'.eval x) := by
  cases x with
  | tmp t => exact h.tmps.getD t
  | const v => exact hx B
  | global g => exact hx.elim
  | func f => exact .func f hx
theorem FR.yielded {fr fr' : Frame} (h : FR G FS P B fr fr') (ops : Array Oper) : yielded ops fr'.tmps = yielded ops fr.tmps := by
  funext j
  unfold Go.yielded
  cases hd : (ops[j]?).bind (·.dst) with
  | none => rfl
  | some d =>
    simp only [Option.bind_some]
    cases hv : fr.tmps[d]? with
    | none =>
      have h' : fr'.tmps[d]? = none := by
        have := h.tmps.none (i := d) (by simpa using hv)
        simpa using this
      rw [h']
    | some v =>
      obtain ⟨v', h1, h2⟩ := VR.get h.tmps hv
      rw [h1]
      cases h2 <;> rfl
theorem FR.mono {B' : BR} (hB : Sub B B') {fr fr' : Frame} (h : FR G FS P B fr fr') : FR G FS P B' fr fr' := ⟨h.ft, h.tmps.mono hB, h.eq⟩
theorem FRs.mono {B' : BR} (hB : Sub B B') : ∀ {l l' : List Frame}, FRs G FS P B l l' → FRs G FS P B' l l'
  | _, _, .nil => .nil
  | _, _, .cons h1 h2 h3 h4 => .cons (h1.mono hB) h2 h3 (h4.mono hB)
/-- Frames that go on with another list of things to do. -/
theorem FR.to {fr fr' : Frame} (h : FR G FS P B fr fr') {k : List Item} (hk : ∀ i ∈ k, ItemT G FS P i) : FR G FS P B { fr with todo := k } { fr' with todo := k } := by
  refine ⟨⟨h.ft.fn, hk, h.ft.defers, h.ft.kind, h.ft.round⟩, h.tmps, ?_⟩
  have := h.eq
  rw [this]
theorem FR.leaves {fr fr' : Frame} (h : FR G FS P B fr fr') : FR G FS P B { fr with mode := .returning } { fr' with mode := .returning } := by
  refine ⟨⟨h.ft.fn, h.ft.todo, h.ft.defers, h.ft.kind, h.ft.round⟩, h.tmps, ?_⟩
  have := h.eq
  rw [this]
theorem FR.todo {fr fr' : Frame} (h : FR G FS P B fr fr') : fr'.todo = fr.todo := by rw [h.eq]
theorem FR.fn {fr fr' : Frame} (h : FR G FS P B fr fr') : fr'.fn = fr.fn := by rw [h.eq]
theorem FR.mode {fr fr' : Frame} (h : FR G FS P B fr fr') : fr'.mode = fr.mode := by rw [h.eq]
theorem FR.finish {fr fr' : Frame} (h : FR G FS P B fr fr') {ops : Array Oper} {i : Nat} {rest : List Nat} {k : List Item} (ht : fr.todo = .inRegion ops (i :: rest) :: k) {v v' : Value} (hv : VR G FS B v v') : FR G FS P B (fr.finish v) (fr'.finish v') := by
  have ht' : fr'.todo = .inRegion ops (i :: rest) :: k := by rw [h.todo, ht]
  have hk : ∀ it ∈ (.inRegion ops rest :: k : List Item), ItemT G FS P it := by
    intro it hi
    rcases List.mem_cons.1 hi with rfl | hi
    · exact h.ft.todo (.inRegion ops (i :: rest)) (by rw [ht]; simp)
    · exact h.ft.todo it (by rw [ht]; exact List.mem_cons_of_mem _ hi)
  unfold Frame.finish
  rw [ht, ht']
  simp only
  cases hd : (ops[i]?).bind (·.dst) with
  | none => exact h.to hk
  | some d =>
    refine ⟨⟨h.ft.fn, hk, h.ft.defers, h.ft.kind, h.ft.round⟩, ?_, ?_⟩
    · simp only [Array.toList_setIfInBounds]
      exact h.tmps.set d hv
    · have := h.eq
      rw [this]
theorem FR.enter (HB : BodiesOK G FS P) {f : FuncId} (hf : FS f) {vas vas' : Array Value} (ha : VRs G FS B vas.toList vas'.toList) : FR G FS P B (Frame.enter P f vas .normal) (Frame.enter P f vas' .normal) := by
  refine ⟨⟨hf, fun i hi => ?_, rfl, rfl, rfl⟩, ?_, ?_⟩
  · simp only [Frame.enter, List.mem_singleton] at hi
    subst hi
    cases hfn : P.funcs[f]? with
    | none => simp [ItemT, CodeT]
    | some fn =>
      cases hb : fn.body with
      | none => simp [hb, ItemT, CodeT]
      | some c =>
        simp only [Option.bind_some, hb, Option.getD_some]
        exact HB.body f hf fn hfn c hb
  · simp only [Frame.enter, Array.toList_append, Array.toList_replicate, ha.size]
    exact ha.append (VRs.replicate VR.undef _)
  · rfl
theorem sim_ctl {fr fr' fr1 : Frame} (h : FR G FS P B fr fr') (hc : ctl fr = some fr1) : ∃ fr1', ctl fr' = some fr1' ∧ FR G FS P B fr1 fr1' := by
  have ht' := h.todo
  have hi := h.ft.todo
  unfold ctl at hc
  split at hc
  all_goals (first | (cases hc; done) | skip)
  all_goals (rename_i ht; unfold ctl; rw [ht', ht]; simp only)
  all_goals (rw [ht] at hi)
  all_goals (first | (injection hc with hc; subst hc) | skip)
  · refine ⟨_, rfl, ?_⟩
    have hl := h.leaves
    simp only [ht', ht] at hl ⊢
    exact hl
  · refine ⟨_, rfl, ?_⟩
    have hl := h.leaves
    simp only [ht', ht] at hl ⊢
    exact hl
  · exact ⟨_, rfl, h.to fun i k => hi i (List.mem_cons_of_mem _ k)⟩
  · exact ⟨_, rfl, h.to fun i k => hi i (List.mem_cons_of_mem _ k)⟩
  · exact ⟨_, rfl, h.to fun i k => hi i (List.mem_cons_of_mem _ k)⟩
  · exact ⟨_, rfl, h.to fun i k => hi i (List.mem_cons_of_mem _ k)⟩
  · rename_i a b k
    refine ⟨_, rfl, h.to fun i hk => ?_⟩
    have h0 : CodeT G FS P a ∧ CodeT G FS P b := hi (.code (.seq a b)) (by simp)
    rcases List.mem_cons.1 hk with rfl | hk
    · exact h0.1
    · rcases List.mem_cons.1 hk with rfl | hk
      · exact h0.2
      · exact hi i (List.mem_cons_of_mem _ hk)
  · rename_i c a b k
    have h0 : OperOK G FS c ∧ CodeT G FS P a ∧ CodeT G FS P b := hi (.code (.cond c a b)) (by simp)
    have hv := h.eval c h0.1
    split at hc
    · rename_i he
      rw [he] at hv
      injection hc with hc
      subst hc
      generalize hz : fr'.eval c = z at hv
      cases hv
      refine ⟨_, rfl, h.to fun i hk => ?_⟩
      rcases List.mem_cons.1 hk with rfl | hk
      · exact h0.2.1
      · exact hi i (List.mem_cons_of_mem _ hk)
    · rename_i he
      rw [he] at hv
      injection hc with hc
      subst hc
      generalize hz : fr'.eval c = z at hv
      cases hv
      refine ⟨_, rfl, h.to fun i hk => ?_⟩
      rcases List.mem_cons.1 hk with rfl | hk
      · exact h0.2.2
      · exact hi i (List.mem_cons_of_mem _ hk)
    · cases hc
  · rename_i id b k
    refine ⟨_, rfl, h.to fun i hk => ?_⟩
    have h0 : CodeT G FS P b := hi (.code (.block id b)) (by simp)
    rcases List.mem_cons.1 hk with rfl | hk
    · exact h0
    · rcases List.mem_cons.1 hk with rfl | hk
      · trivial
      · exact hi i (List.mem_cons_of_mem _ hk)
  · rename_i b k
    refine ⟨_, rfl, h.to fun i hk => ?_⟩
    have h0 : CodeT G FS P b := hi (.code (.loop b)) (by simp)
    rcases List.mem_cons.1 hk with rfl | hk
    · exact h0
    · rcases List.mem_cons.1 hk with rfl | hk
      · exact h0
      · exact hi i (List.mem_cons_of_mem _ hk)
  · rename_i b k
    refine ⟨_, rfl, h.to fun i hk => ?_⟩
    have h0 : CodeT G FS P b := hi (.inLoop b) (by simp)
    rcases List.mem_cons.1 hk with rfl | hk
    · exact h0
    · rcases List.mem_cons.1 hk with rfl | hk
      · exact h0
      · exact hi i (List.mem_cons_of_mem _ hk)
  · rename_i b k
    refine ⟨_, rfl, h.to fun i hk => ?_⟩
    have h0 : CodeT G FS P b := hi (.code (.scope b)) (by simp)
    rcases List.mem_cons.1 hk with rfl | hk
    · exact h0
    · rcases List.mem_cons.1 hk with rfl | hk
      · exact h0
      · exact hi i (List.mem_cons_of_mem _ hk)
  · rename_i id k
    cases he : exitTo id k with
    | none => rw [he] at hc; cases hc
    | some k' =>
      rw [he] at hc
      injection hc with hc
      subst hc
      exact ⟨_, rfl, h.to fun i hk => hi i (List.mem_cons_of_mem _ (exitTo_sub he i hk))⟩
  · rename_i id k
    cases he : gotoIn id k with
    | none => rw [he] at hc; cases hc
    | some k' =>
      rw [he] at hc
      injection hc with hc
      subst hc
      exact ⟨_, rfl, h.to fun i hk => gotoIn_tame he (fun i k => hi i (List.mem_cons_of_mem _ k)) i hk⟩
  · rename_i id ops k
    refine ⟨_, rfl, h.to fun i hk => ?_⟩
    rcases List.mem_cons.1 hk with rfl | hk
    · exact hi (.code (.region id ops false)) (by simp)
    · exact hi i (List.mem_cons_of_mem _ hk)
  · exact ⟨_, rfl, h.to fun i k => hi i (List.mem_cons_of_mem _ k)⟩
  · rename_i ops i rest k
    rw [h.yielded ops]
    split at hc
    · cases hc
    · rename_i hn
      rw [if_neg hn]
      injection hc with hc
      subst hc
      exact ⟨_, rfl, h.finish ht VR.undef⟩
theorem tmps_of : ∀ (l : List ResultVar), (∀ r ∈ l, ∃ t, r = .tmp t) → ∃ ts : List Nat, l = ts.map ResultVar.tmp
  | [], _ => ⟨[], rfl⟩
  | r :: l, h => by
    obtain ⟨t, rfl⟩ := h r (by simp)
    obtain ⟨ts, rfl⟩ := tmps_of l fun r hr => h r (by simp [hr])
    exact ⟨t :: ts, rfl⟩
def resOf (l : List Value) : Value := if h : l.toArray.size = 1 then l.toArray[0] else .tuple l.toArray
theorem mapM_tmps (tmps : Array Value) (ev : ResultVar → Sem Value) (hev : ∀ t, ev (.tmp t) = pure (tmps.getD t undef)) : ∀ (ts : List Nat), (ts.map ResultVar.tmp).mapM ev = (pure (ts.map fun t => tmps.getD t undef) : Sem (List Value))
  | [] => rfl
  | t :: ts => by
    rw [List.map_cons, List.mapM_cons, hev, mapM_tmps tmps ev hev ts]
    rfl
theorem results_tmps {fn : Func} {ts : List Nat} (h : fn.results.toList = ts.map ResultVar.tmp) (tmps : Array Value) : results fn tmps = pure (resOf (ts.map fun t => tmps.getD t undef)) := by
  unfold results
  rw [Array.mapM_eq_mapM_toList, h, mapM_tmps tmps _ (fun t => rfl) ts]
  rfl
theorem resOf_rel {a a' : Array Value} (h : VRs G FS B a.toList a'.toList) (ts : List Nat) : VR G FS B (resOf (ts.map fun t => a.getD t undef)) (resOf (ts.map fun t => a'.getD t undef)) := by
  have hl : ∀ ts : List Nat, VRs G FS B (ts.map fun t => a.getD t undef) (ts.map fun t => a'.getD t undef) := by
    intro ts
    induction ts with
    | nil => exact .nil
    | cons t ts ih => exact .cons (h.getD t) ih
  cases ts with
  | nil => exact .tuple .nil
  | cons t ts =>
    cases ts with
    | nil => exact h.getD t
    | cons u us =>
      have e : ∀ b : Array Value, resOf ((t :: u :: us).map fun t => b.getD t undef) = .tuple ((t :: u :: us).map fun t => b.getD t undef).toArray := by
        intro b
        unfold resOf
        rw [dif_neg (by simp)]
      rw [e, e]
      exact .tuple (hl _)

/-- The simulation: what a lone step comes to, the other's step comes to. -/
structure Match (G : Nat) (FS : FuncId → Prop) (Sh : Nat → Prop) (P : Program) (B : BR) (c : List Frame) (base : List Frame) (fr' : Frame) (cs' : List Frame) (w : World) (fr1 : Frame) (cs1 : List Frame) (wl1 : World) (B1 : BR) (fr1' : Frame) (l1 l1' : List Frame) (w1 : World) (es : Array Event) : Prop where
  cs1 : cs1 = l1 ++ c
  step : Step1 P fr' cs' w fr1' (l1' ++ base) w1 es
  fr : FR G FS P B1 fr1 fr1'
  frs : FRs G FS P B1 l1 l1'
  wr : WR G FS Sh B1 wl1 w1
  did : Did Sh B B1 w w1
  ev : ∀ e ∈ es, EvOK Sh B1 e
theorem seen_mem {fn : FuncId} {es : Array Event} {e : Event} (he : e ∈ seen P fn es) : e ∈ es := by
  unfold seen at he
  have key : ∀ (l : List Event) (q : Bool) (k : Array Event) (e : Event), e ∈ (l.foldl (fun (x : Bool × Array Event) e => match e.loc with | .mark (.extern f) => ((P.funcs[f]?).any (·.norace), x.2) | _ => (x.1, if x.1 && !e.sync then x.2 else x.2.push e)) (q, k)).2 → e ∈ k ∨ e ∈ l := by
    intro l
    induction l with
    | nil => intro q k e he; exact .inl he
    | cons a l ih =>
      intro q k e he
      simp only [List.foldl_cons] at he
      rcases ih _ _ e he with h | h
      · revert h
        split
        · intro h; exact .inl h
        · split
          · intro h; exact .inl h
          · intro h
            rcases Array.mem_push.1 h with h | h
            · exact .inl h
            · exact .inr (by simp [h])
      · exact .inr (List.mem_cons_of_mem _ h)
  simp only at he
  rw [← Array.foldl_toList] at he
  rcases key es.toList _ _ e he with h | h
  · simp at h
  · simpa using h
theorem Step1.sim (H : OpenOK G FS P) (HB : BodiesOK G FS P) {c base : List Frame} {fr fr' fr1 : Frame} {l l' cs1 : List Frame} {wl w wl1 : World} {es : Array Event} (hf : FR G FS P B fr fr') (hl : FRs G FS P B l l') (hw : WR G FS Sh B wl w) (hs : Step1 P fr (l ++ c) wl fr1 cs1 wl1 es) (hend : fr.mode = .returning → l ≠ []) :
    ∃ B1 fr1' l1 l1' w1 es', Match G FS Sh P B c base fr' (l' ++ base) w fr1 cs1 wl1 B1 fr1' l1 l1' w1 es' := by
  generalize hcs : l ++ c = cs at hs
  cases hs with
  | ctl hm hc =>
    obtain ⟨fr1', h1, h2⟩ := sim_ctl hf hc
    exact ⟨B, fr1', l, l', w, #[], hcs.symm, .ctl (by rw [hf.mode, hm]) h1, h2, hl, hw, Did.refl _ _, by simp⟩
  | draw hm ht hr =>
    rename_i id ops k t
    have hk : ∀ i ∈ (.inRegion ops (Region.schedule (P.follows .mixedOrders) ops t) :: k : List Item), ItemT G FS P i := by
      have hi := hf.ft.todo
      rw [ht] at hi
      intro i hk
      rcases List.mem_cons.1 hk with rfl | hk
      · exact hi (.code (.region id ops true)) (by simp)
      · exact hi i (List.mem_cons_of_mem _ hk)
    have hsem : SemR (G := G) (FS := FS) P EqQ B (choose (.order fr.fn id)) (choose (.order fr.fn id)) := .choose fun n => .pure rfl
    obtain ⟨B1, t', w1, es', h1, h2, h3, h4, h5⟩ := hsem.run #[] hw hr
    obtain rfl : t' = t := h2
    have h1' : (choose (.order fr'.fn id)).run P w = .ok t' w1 := by
      rw [hf.fn, ← Sem.runT_fst P _ w #[], h1]
    exact ⟨B1, _, l, l', w1, #[], hcs.symm, .draw (by rw [hf.mode, hm]) (by rw [hf.todo, ht]) h1', (hf.mono h4.sub).to hk, hl.mono h4.sub, h3, h4, by simp⟩
  | oper hm ht ho hwant hr ha =>
    rename_i ops i rest k o n es0
    have htame : OpTame G FS P o.op := by
      have := hf.ft.todo (.inRegion ops (i :: rest)) (by rw [ht]; simp)
      refine this o ?_
      have := Array.mem_of_getElem? ho
      simpa using this
    have hsem := r_execOp H (B := B) (ρ := fr.eval) (ρ' := fr'.eval) hf.eval htame
    have hr' : (execOp fr.eval o).run P wl = .ok n wl1 := by rw [← Sem.runT_fst P _ wl #[], hr]
    obtain ⟨B1, n', w1, es', h1, h2, h3, h4, h5⟩ := hsem.run #[] hw hr'
    have hev : ∀ e ∈ seen P fr'.fn es', EvOK Sh B1 e := by
      intro e he
      rcases h5 e (seen_mem he) with h | h
      · simp at h
      · exact h
    have hwant' : Region.wanted o (yielded ops fr'.tmps) = true := by rw [hf.yielded]; exact hwant
    cases h2 with
    | value hv =>
      simp only [after, Option.some.injEq, Prod.mk.injEq] at ha
      obtain ⟨rfl, rfl⟩ := ha
      exact ⟨B1, _, l, l', w1, _, hcs.symm, .oper (by rw [hf.mode, hm]) (by rw [hf.todo, ht]) ho hwant' h1 rfl, (hf.mono h4.sub).finish ht hv, hl.mono h4.sub, h3, h4, hev⟩
    | skip =>
      simp only [after, Option.some.injEq, Prod.mk.injEq] at ha
      obtain ⟨rfl, rfl⟩ := ha
      exact ⟨B1, _, l, l', w1, _, hcs.symm, .oper (by rw [hf.mode, hm]) (by rw [hf.todo, ht]) ho hwant' h1 rfl, (hf.mono h4.sub).finish ht VR.undef, hl.mono h4.sub, h3, h4, hev⟩
    | enter f hfs has =>
      simp only [after, Option.some.injEq, Prod.mk.injEq] at ha
      obtain ⟨rfl, rfl⟩ := ha
      exact ⟨B1, _, fr :: l, fr' :: l', w1, _, by rw [← hcs]; rfl, .oper (by rw [hf.mode, hm]) (by rw [hf.todo, ht]) ho hwant' h1 rfl, FR.enter HB hfs has, .cons (hf.mono h4.sub) hm ⟨ops, i, rest, k, ht⟩ (hl.mono h4.sub), h3, h4, hev⟩
  | ret hm hfn hr =>
    rename_i fn v
    have hne := hend hm
    cases hl with
    | nil => exact absurd rfl hne
    | @cons d d' l l' hd hdm hdt hl =>
      obtain ⟨ops, i, rest, k, hdt⟩ := hdt
      rw [List.cons_append] at hcs
      injection hcs with h1 h2
      subst h1 h2
      obtain ⟨ts, hts⟩ := tmps_of fn.results.toList (HB.res _ hf.ft.fn fn hfn)
      have e := results_tmps hts fr.tmps
      have e' := results_tmps hts fr'.tmps
      rw [e] at hr
      have hv : v = resOf (ts.map fun t => fr.tmps.getD t undef) := by
        have := congrArg Prod.fst hr
        simp only [pure, Sem.runT] at this
        injection this with this
        exact this.symm
      subst hv
      have hret : Step1 P fr' (d' :: (l' ++ base)) w (d'.finish (resOf (ts.map fun t => fr'.tmps.getD t undef))) (l' ++ base) w #[] := .ret (by rw [hf.mode, hm]) (by rw [hf.fn]; exact hfn) (by rw [e']; rfl)
      exact ⟨B, _, l, l', w, #[], rfl, hret, hd.finish hdt (resOf_rel hf.tmps ts), hl, hw, Did.refl _ _, by simp⟩
end
end Go.Proofs.Ytgeoffpcmkofkaa
