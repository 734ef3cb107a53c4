/- Lb; Lc; Ld; Le: texts laid into one. -/
import Derived.Test.YtgeoffpcmkofkaaQal
/- The machine takes these steps: those that were started. -/
namespace Go.Proofs.Ytgeoffpcmkofkaa
open Go Go.Conc
open Go.ConcN (sumTo upd sumTo_upd upd_ne upd_same)

section
variable {P : Program} {S : Nat → Prop} {n0 : Nat} {E E' : Nat → Option (List Value)} {R R' : Option Nat} {O O' : Nat → Prop} {a a' : Goroutine} {w0 w0' : World} {kids : List Kid} {q q' : Nat → Nat} {gs gs' : Array Goroutine} {w w1 : World} {t u : Trace} {Own Own' : Nat → Nat → Prop} {W W' : Nat → World} {b b' : Bool}
theorem CI.gsK (h : CI P S n0 E R O a w0 kids q gs w t Own W b) {j : Nat} {x : Kid} (hx : kids[j]? = some x) : n0 + j < gs.size := by
  rw [h.size]; have := (List.getElem?_eq_some_iff.1 hx).1; omega
/-- It closes its channel. -/
theorem CI.kidShut (h : CI P S n0 E R O a w0 kids q gs w t Own W b) {j : Nat} {x : Kid} (hx : kids[j]? = some x) (hm : x.m = 2) (ho : x.outs = []) {g1 : Goroutine} {n : Nat} (hq1 : QuitsIn P n g1) (s r : Nat) (tm : Bool) (fn : FuncId) (pos : String) {g : Goroutine} (hwake : mayWake P g = true) :
    ∃ b', CI P S n0 E R O a w0 (kids.set j { x with m := 0 }) (put q (n0 + j) n) ((gs.map (Conc.woken P g g1 { w with heap := w.heap.setIfInBounds x.c (.chan 0 #[] true s r tm) })).setIfInBounds (n0 + j) g1) { w with heap := w.heap.setIfInBounds x.c (.chan 0 #[] true s r tm) }
      (t ++ MemOp.ofEvents (n0 + j) fn pos #[⟨.obj x.c, false, true⟩, ⟨.obj x.c, true, true⟩]) Own W b' := by
  have hpos := h.pos
  have hL := h.liveK hx
  have hj := (List.getElem?_eq_some_iff.1 hx).1
  have hlt := h.gsK hx
  have hch : Chs kids x.c := ⟨j, x, hx, rfl⟩
  generalize hw1 : ({ w with heap := w.heap.setIfInBounds x.c (.chan 0 #[] true s r tm) } : World) = w1
  have hh1 : w1.heap = w.heap.setIfInBounds x.c (.chan 0 #[] true s r tm) := by rw [← hw1]
  have hclt := h.lowC hx
  have hsame : ∀ r', r' ≠ x.c → w1.heap[r']? = w.heap[r']? := fun r' hr => by rw [hh1, Array.getElem?_setIfInBounds_ne (Ne.symm hr)]
  have hshut : ShutC w1 x.c := ⟨s, r, tm, by rw [hh1]; simp [hclt]⟩
  have hother : ∀ (i : Nat) (z : Kid), kids[i]? = some z → i ≠ j → z.c ≠ x.c := fun i z hz hne e => hne (h.ch i j z x hz hx e)
  -- the others
  have hset : ∀ i, i ≠ 0 → i ≠ n0 + j → ((gs.map (Conc.woken P g g1 w1)).setIfInBounds (n0 + j) g1)[i]? = gs[i]? := by
    intro i hi0 hi
    rw [Array.getElem?_setIfInBounds_ne (Ne.symm hi), Array.getElem?_map]
    cases hz : gs[i]? with
    | none => rfl
    | some z =>
      rw [Option.map_some]
      congr 1
      have hilt : i < gs.size := (Array.getElem?_eq_some_iff.1 hz).1
      by_cases hn : i < n0
      · exact woken_quitsD (h.old i z (by omega) hn hz)
      · obtain ⟨k, rfl⟩ : ∃ k, i = n0 + k := ⟨i - n0, by omega⟩
        have hk' : k < kids.length := by rw [h.size] at hilt; omega
        have hgk := List.getElem?_eq_getElem hk'
        have hk := h.kid k kids[k] hgk
        cases hk with
        | live k1 k2 k3 k4 k5 => rw [k2] at hz; injection hz with hz; subst hz; exact woken_run k3.running
        | sits v zz outs k1 k2 k3 k4 k5 k6 =>
          rw [k2] at hz; injection hz with hz; subst hz
          obtain ⟨s', r', tm', kk⟩ := k5
          exact woken_send_open (cap := 0) (buf := #[]) (s := s') (r := r') (tm := tm') _ _ (by rw [hsame _ (hother k _ hgk (by omega))]; exact kk)
        | gone g k1 k2 k3 k4 => rw [k2] at hz; injection hz with hz; subst hz; exact woken_quits k3
  have hu : MemOp.ofEvents (n0 + j) fn pos #[⟨.obj x.c, false, true⟩, ⟨.obj x.c, true, true⟩] = #[{ g := n0 + j, fn, pos, act := .access ⟨.obj x.c, false, true⟩ }] ++ #[{ g := n0 + j, fn, pos, act := .close x.c }] := by simp [MemOp.ofEvents, MemAct.ofEvent]
  rw [hu]
  have hreg0 := h.reg.chan (w1 := w1) hch hh1 (by rw [← hw1]) (by rw [← hw1])
  have hclt1 : x.c < w1.heap.size := by rw [hh1]; simpa using hclt
  have hreg : Reg (LiveG n0 gs.size) Own S (Chs kids) W w1 (t ++ (#[{ g := n0 + j, fn, pos, act := .access ⟨.obj x.c, false, true⟩ }] ++ #[{ g := n0 + j, fn, pos, act := .close x.c }])) := by
    refine ⟨hreg0.lie, hreg0.low, hreg0.sLow, hreg0.cLow, hreg0.keeps, TB.app hreg0.lie hreg0.tb hL fun op hop => ?_⟩
    have : op = { g := n0 + j, fn, pos, act := .access ⟨.obj x.c, false, true⟩ } ∨ op = { g := n0 + j, fn, pos, act := .close x.c } := by simpa using hop
    rcases this with rfl | rfl
    · refine ⟨rfl, fun y hy _ => ?_, hclt1, by simp, by simp⟩
      simp only [MemAct.touch?, Option.some.injEq] at hy
      subst hy
      exact ⟨x.c, rfl, .inr (.inr ⟨hch, rfl⟩)⟩
    · exact ⟨rfl, fun y hy _ => by simp [MemAct.touch?] at hy, hclt1, by simp, by simp⟩
  have hdeaf : Deaf (t ++ #[({ g := n0 + j, fn, pos, act := .access ⟨.obj x.c, false, true⟩ } : MemOp)]) (n0 + j) = 0 := by
    rw [deaf_same (by simp)]
    exact h.reg.tb.hears _ hL
  have hsat : ShutAt (n0 + j) x.c (t ++ (#[{ g := n0 + j, fn, pos, act := .access ⟨.obj x.c, false, true⟩ }] ++ #[{ g := n0 + j, fn, pos, act := .close x.c }])) (t.size + 1) := by
    have := ShutAt.new (k := n0 + j) (c := x.c) (y := { g := n0 + j, fn, pos, act := .close x.c }) ⟨rfl, rfl⟩ hdeaf
    rw [← Array.append_assoc]
    simpa using this
  -- the main one
  have hmain : ∃ b', (b' = true ∧ ∃ off, ((gs.map (Conc.woken P g g1 w1)).setIfInBounds (n0 + j) g1)[0]? = some { a with status := .running, offers := off }) ∨ (b' = false ∧ ∃ c z, ((gs.map (Conc.woken P g g1 w1)).setIfInBounds (n0 + j) g1)[0]? = some (parked a #[rcase c z] (.recv true)) ∧ RecvAt P S O a w0 c z ∧ ∃ (i : Nat) (k : Kid), (kids.set j { x with m := 0 })[i]? = some k ∧ k.c = c ∧ k.m = 2) := by
    have e0 : ((gs.map (Conc.woken P g g1 w1)).setIfInBounds (n0 + j) g1)[0]? = (gs[0]?).map (Conc.woken P g g1 w1) := by
      rw [Array.getElem?_setIfInBounds_ne (by omega), Array.getElem?_map]
    rw [e0]
    rcases h.main with ⟨_, off, hm0⟩ | ⟨_, c, z, hm0, hr, i, k, k4, k5, k6⟩
    · exact ⟨true, .inl ⟨rfl, off, by rw [hm0, Option.map_some, woken_run rfl]⟩⟩
    · by_cases e : c = x.c
      · subst e
        unfold Conc.woken
        split
        · refine ⟨true, .inl ⟨rfl, some (#[rcase x.c z], .recv true), ?_⟩⟩
          rw [hm0, Option.map_some]
          congr 1
          exact again_recv_closed (cap := 0) (buf := #[]) (s := s) (r := r) (tm := tm) (by rw [hh1]; simp [hclt])
        · rename_i hno
          refine absurd ?_ hno
          rcases hq1.status with e1 | e1 <;> simp [hwake, e1]
      · refine ⟨false, .inr ⟨rfl, c, z, ?_, hr, i, k, ?_, k5, k6⟩⟩
        · rw [hm0, Option.map_some]
          congr 1
          have hk := (h.kid i k k4).openC (by omega)
          obtain ⟨s', r', tm', hk⟩ := hk
          exact woken_recv_open (cap := 0) (buf := #[]) (s := s') (r := r') (tm := tm') _ _ (by rw [hsame c e, ← k5]; exact hk)
        · have : j ≠ i := by
            rintro rfl
            rw [hx] at k4
            injection k4 with k4
            subst k4
            exact e k5.symm
          rw [List.getElem?_set_ne this]
          exact k4
  obtain ⟨b', hmain⟩ := hmain
  refine ⟨b', h.to hx rfl (by simp) hset (fun i z hz hne => hsame _ (hother i z hz hne)) (fun op hop => ?_) (fun i hi => put_ne _ _ hi) (fun _ _ _ _ => rfl) h.exp hmain h.own0 h.w0 ?_ ⟨(h.kown j x hx).1, fun hm0 => absurd hm0 (by simp)⟩ (fun _ _ _ => ⟨rfl, rfl⟩) (fun c hr => ?_) hreg⟩
  · have : op = { g := n0 + j, fn, pos, act := .access ⟨.obj x.c, false, true⟩ } ∨ op = { g := n0 + j, fn, pos, act := .close x.c } := by simpa using hop
    rcases this with rfl | rfl <;> exact ⟨.inr rfl, by simp, by simp⟩
  · refine .gone g1 rfl (set_at _ _ _ hlt) (by rw [put_same]; exact hq1) (.inl ⟨?_, hshut, _, hsat⟩)
    have := (h.kid j x hx).exp (by omega)
    rw [ho] at this
    exact this
  · obtain ⟨⟨tm', h1⟩, h2, h3, h4⟩ := h.res c hr
    refine ⟨⟨tm', ?_⟩, h2, h3, h4⟩
    rw [hsame c fun e => h4 (e ▸ hch)]
    exact h1

/-- One that is only leaving takes a step. -/
theorem CI.slipOld (h : CI P S n0 E R O a w0 kids q gs w t Own W b) {i k : Nat} {g g' : Goroutine} (h0 : 0 < i) (hn : i < n0) {es : Array Event} (hmute : ∀ e ∈ es, Event.mute e = true) (hq : QuitsD P k (deafBehind (Deaf t i) es) g') (fn : FuncId) (pos : String) :
    CI P S n0 E R O a w0 kids (put q i k) ((gs.map (Conc.woken P g g' w)).setIfInBounds i g') w (t ++ MemOp.ofEvents i fn pos es) Own W b := by
  have hpos := h.pos
  have hall := h.woken (w1 := w) (fun j x hx hm => (h.kid j x hx).openC hm) g g'
  have hset := set_get gs (Conc.woken P g g' w) i g' fun k x _ hx => hall k x hx
  have hu : ∀ op ∈ MemOp.ofEvents i fn pos es, op.g = i ∧ op.act.touch? = none ∧ op.act.low w.heap.size := by
    intro op hop
    obtain ⟨e, he, rfl⟩ := Conc.mem_ofEvents hop
    exact ⟨rfl, touch_mute (hmute e he), low_mute (hmute e he) _⟩
  have hd : ∀ k, k ≠ i → Deaf (t ++ MemOp.ofEvents i fn pos es) k = Deaf t k := fun k hk => Deaf_other t (Ne.symm hk) _ fun op hop => (hu op hop).1
  have hilt : i < gs.size := by rw [h.size]; omega
  refine ⟨h.pos, by simp [h.size], fun k x h1 h2 hx => ?_, fun k hk => ?_, ?_, h.own0, h.w0, fun k x hx => ?_, h.kown, h.ch, by simpa using h.res, h.exp, ?_⟩
  · by_cases e : k = i
    · subst e
      rw [set_at _ _ _ hilt] at hx
      injection hx with hx
      subst hx
      rw [put_same, Deaf_own]
      exact hq
    · rw [hset k e] at hx
      rw [put_ne _ _ e, hd k e]
      exact h.old k x h1 h2 hx
  · rw [hd k (by simp at hk; omega)]
    exact h.above k (by simpa using hk)
  · rw [hset 0 (by omega)]
    exact h.main
  · refine (h.kid k x hx).keep (hset _ (by omega)) rfl rfl (put_ne _ _ (by omega)) fun op hop hg => ?_
    exact (hu op hop).2.1
  · have : ¬LiveG n0 gs.size i := by
      rintro (e | e) <;> omega
    simpa using h.reg.mute this hu
theorem CI.slipGone (h : CI P S n0 E R O a w0 kids q gs w t Own W b) {j k : Nat} {x : Kid} {g g' : Goroutine} (hx : kids[j]? = some x) (hm : x.m = 0) (hq : QuitsIn P k g') (fn : FuncId) (pos : String) :
    CI P S n0 E R O a w0 kids (put q (n0 + j) k) ((gs.map (Conc.woken P g g' w)).setIfInBounds (n0 + j) g') w (t ++ MemOp.ofEvents (n0 + j) fn pos #[]) Own W b := by
  have hpos := h.pos
  have hall := h.woken (w1 := w) (fun j x hx hm => (h.kid j x hx).openC hm) g g'
  have hset := set_get gs (Conc.woken P g g' w) (n0 + j) g' fun k x _ hx => hall k x hx
  have hj := (List.getElem?_eq_some_iff.1 hx).1
  have hs : kids.set j x = kids := by
    have : kids[j] = x := (List.getElem?_eq_some_iff.1 hx).2
    rw [← this, List.set_getElem_self]
  have hki := h.kid j x hx
  have := h.to (u := #[]) (E' := E) (R' := R) (O' := O) (a' := a) (w0' := w0) (q' := put q (n0 + j) k) (gs' := (gs.map (Conc.woken P g g' w)).setIfInBounds (n0 + j) g') (w1 := w) (Own' := Own) (W' := W) (b' := b) hx (y := x) rfl (by simp) (fun i _ hi => hset i hi) (fun _ _ _ _ => rfl) (by simp) (fun i hi => put_ne _ _ hi) (fun _ _ _ _ => rfl) h.exp ?_ h.own0 h.w0 ?_ (h.kown j x hx) (fun _ _ _ => ⟨rfl, rfl⟩) h.res (by simpa using h.reg)
  · rw [ofE_nil]
    rw [hs] at this
    exact this
  · rw [hset 0 (by omega), hs]
    exact h.main
  · cases hki with
    | live k1 => omega
    | sits _ _ _ k1 => omega
    | gone g0 k1 k2 k3 k4 => exact .gone g' hm (set_at _ _ _ (h.gsK hx)) (by rw [put_same]; exact hq) (by simpa using k4)
/-- The two meet. -/
theorem CI.meet (h : CI P S n0 E R O a w0 kids q gs w t Own W b) {j : Nat} {x : Kid} (hx : kids[j]? = some x) (hm : 1 ≤ x.m) {v : Value} {outs : List Value} (hk : KT P S x.c outs x.own (Conc.served x.g undef) x.w) {s r : Nat} {tm : Bool} (hw : w1.heap = w.heap.setIfInBounds x.c (.chan 0 #[] false s r tm)) (ho : w1.os = w.os) (hu2 : w1.output = w.output)
    (hsz : gs'.size = gs.size) (h0 : gs'[0]? = some (Conc.served a v)) (hj : gs'[n0 + j]? = some (Conc.served x.g undef)) (hgs : ∀ i, i ≠ 0 → i ≠ n0 + j → gs'[i]? = gs[i]?) (hu : ∀ op ∈ u, (op.g = 0 ∨ op.g = n0 + j) ∧ Still w.heap.size op) :
    CI P S n0 (put E x.c (some outs)) R O (Conc.served a v) w0 (kids.set j { x with outs := outs, g := Conc.served x.g undef, m := 2 }) q gs' w1 (t ++ u) Own W true := by
  have hch : Chs kids x.c := ⟨j, x, hx, rfl⟩
  have hclt := h.lowC hx
  have hsame : ∀ r', r' ≠ x.c → w1.heap[r']? = w.heap[r']? := fun r' hr => by rw [hw, Array.getElem?_setIfInBounds_ne (Ne.symm hr)]
  have hother : ∀ (i : Nat) (z : Kid), kids[i]? = some z → i ≠ j → z.c ≠ x.c := fun i z hz hne e => hne (h.ch i j z x hz hx e)
  have hsz1 : w1.heap.size = w.heap.size := by rw [hw]; simp
  refine h.to hx rfl hsz hgs (fun i z hz hne => hsame _ (hother i z hz hne)) (fun op hop => ⟨(hu op hop).1, (hu op hop).2.dis, (hu op hop).2.ena⟩) (fun _ _ => rfl) (fun i z hz hne => put_ne _ _ (hother i z hz hne)) (fun c o hc => ?_) (.inl ⟨rfl, none, h0⟩) h.own0 h.w0 ?_ ⟨(h.kown j x hx).1, fun _ => (h.kown j x hx).2 hm⟩ (fun _ _ _ => ⟨rfl, rfl⟩) (fun c hr => ?_) ?_
  · by_cases e : c = x.c
    · rw [e]; exact hch
    · rw [put_ne _ _ e] at hc; exact h.exp c o hc
  · exact .live rfl hj hk ⟨s, r, tm, by rw [hw]; simp [hclt]⟩ (put_same _ _ _)
  · obtain ⟨⟨tm', h1⟩, h2, h3, h4⟩ := h.res c hr
    refine ⟨⟨tm', ?_⟩, h2, h3, h4⟩
    rw [hsame c fun e => h4 (e ▸ hch)]
    exact h1
  · exact (h.reg.chan hch hw ho hu2).still fun op hop => by rw [hsz1]; exact (hu op hop).2
/-- The main one finds a channel closed. -/
theorem CI.last (h : CI P S n0 E R O a w0 kids q gs w t Own W b) {j : Nat} {x : Kid} (hx : kids[j]? = some x) (hE : E x.c = some []) (hm : x.m = 0) {v : Value} (hsz : gs'.size = gs.size) (h0 : gs'[0]? = some (Conc.served a v)) (hgs : ∀ i, i ≠ 0 → gs'[i]? = gs[i]?) {y : MemOp} (hy : y.g = 0 ∧ y.act = .recvClosed x.c) :
    CI P S n0 (put E x.c none) R O (Conc.served a v) w0 kids q gs' w (t ++ #[y]) Own W true := by
  have hpos := h.pos
  have hch : Chs kids x.c := ⟨j, x, hx, rfl⟩
  have hj := (List.getElem?_eq_some_iff.1 hx).1
  have hs : kids.set j x = kids := by
    have : kids[j] = x := (List.getElem?_eq_some_iff.1 hx).2
    rw [← this, List.set_getElem_self]
  have hother : ∀ (i : Nat) (z : Kid), kids[i]? = some z → i ≠ j → z.c ≠ x.c := fun i z hz hne e => hne (h.ch i j z x hz hx e)
  have hst : Still w.heap.size y := ⟨by rw [hy.2]; rfl, by rw [hy.2]; exact h.lowC hx, by rw [hy.2]; simp, by rw [hy.2]; simp⟩
  have one : ∀ (op : MemOp), op ∈ #[y] → ∀ {p : MemOp → Prop}, p y → p op := fun op hop p hp => by
    have : op = y := by simpa using hop
    rw [this]; exact hp
  have hki := h.kid j x hx
  have := h.to (u := #[y]) (E' := put E x.c none) (R' := R) (O' := O) (a' := Conc.served a v) (w0' := w0) (q' := q) (gs' := gs') (w1 := w) (Own' := Own) (W' := W) (b' := true) hx (y := x) rfl hsz (fun i hi _ => hgs i hi) (fun _ _ _ _ => rfl) (fun op hop => one op hop (p := fun op => (op.g = 0 ∨ op.g = n0 + j) ∧ op.act ≠ .mark .disable ∧ op.act ≠ .mark .enable) ⟨.inl hy.1, hst.dis, hst.ena⟩) (fun _ _ => rfl) (fun i z hz hne => put_ne _ _ (hother i z hz hne)) (fun c o hc => ?_) (.inl ⟨rfl, none, h0⟩) h.own0 h.w0 ?_ (h.kown j x hx) (fun _ _ _ => ⟨rfl, rfl⟩) h.res (h.reg.still fun op hop => one op hop hst)
  · rw [hs] at this
    exact this
  · by_cases e : c = x.c
    · rw [e]; exact hch
    · rw [put_ne _ _ e] at hc; exact h.exp c o hc
  · cases hki with
    | live k1 => omega
    | sits _ _ _ k1 => omega
    | gone g0 k1 k2 k3 k4 =>
      refine .gone g0 hm (by rw [hgs _ (by omega)]; exact k2) k3 (.inr ⟨put_same _ _ _, ?_⟩)
      rcases k4 with ⟨_, _, pc, k4⟩ | ⟨k4, _⟩
      · exact k4.known hy (h.reg.tb.hears 0 (.inl rfl))
      · rw [hE] at k4; cases k4
end
end Go.Proofs.Ytgeoffpcmkofkaa
/- The machine with one that starts others and receives from them comes to the end, whatever the tape. -/
namespace Go.Proofs.Ytgeoffpcmkofkaa
open Go Go.Conc
open Go.ConcN (sumTo)

section
variable {P : Program} {S : Nat → Prop} {n0 : Nat} {E : Nat → Option (List Value)} {R : Option Nat} {O : Nat → Prop} {a : Goroutine} {w0 : World} {Post : Value → World → Prop}
def Fine (P : Program) (Post : Value → World → Prop) (m : Machine) (t : Trace) : Prop := ∃ N last o w' t', runNT P (N + 1) m t = (.ended o w', t') ∧ runN P N m = .next last ∧ step P last = .ended o w' ∧ Conc.Good P Post last o w' t'
theorem Fine.step {m m' : Machine} {t ops : Trace} (h : stepT P m = (.next m', ops)) (k : Fine P Post m' (t ++ ops)) : Fine P Post m t := by
  obtain ⟨n, last, o, w, t', h1, h2, h3, h4⟩ := k
  exact ⟨n + 1, last, o, w, t', by rw [runNT_succ_next h]; exact h1, by rw [runN_succ_next h]; exact h2, h3, h4⟩
section
variable {kids : List Kid} {q : Nat → Nat} {gs : Array Goroutine} {w : World} {t : Trace} {Own : Nat → Nat → Prop} {W : Nat → World} {b : Bool}
theorem CI.keep0 (h : CI P S n0 E R O a w0 kids q gs w t Own W b) : Keeps O S w0 w := by
  have := h.reg.keeps 0 (.inl rfl)
  rwa [h.own0, h.w0] at this
theorem CI.keepK (h : CI P S n0 E R O a w0 kids q gs w t Own W b) {j : Nat} {x : Kid} (hx : kids[j]? = some x) (hm : 1 ≤ x.m) : Keeps x.own S x.w w := by
  have := h.reg.keeps (n0 + j) (h.liveK hx)
  rwa [(h.kown j x hx).1, (h.kown j x hx).2 hm] at this
theorem CI.noRecvK (h : CI P S n0 E R O a w0 kids q gs w t Own W b) (c : Nat) : ∀ (i : Nat) (x : Goroutine), i ≠ 0 → gs[i]? = some x → offersAt x c false = [] := by
  intro i x h0 hx
  have hlt : i < gs.size := (Array.getElem?_eq_some_iff.1 hx).1
  by_cases hn : i < n0
  · exact offersAt_of_not_blocked (by rcases (h.old i x (by omega) hn hx).status with e | e <;> rw [e] <;> simp) _ _
  · obtain ⟨j, rfl⟩ : ∃ j, i = n0 + j := ⟨i - n0, by omega⟩
    have hj : j < kids.length := by rw [h.size] at hlt; omega
    have hk := h.kid j kids[j] (List.getElem?_eq_getElem hj)
    cases hk with
    | live k1 k2 k3 k4 k5 => rw [k2] at hx; injection hx with hx; rw [← hx]; exact offersAt_of_not_blocked (by rw [k3.running]; simp) _ _
    | sits v z outs k1 k2 k3 k4 k5 k6 => rw [k2] at hx; injection hx with hx; rw [← hx]; exact offersAt_parked_send' _ _ _ _ _ _
    | gone g k1 k2 k3 k4 => rw [k2] at hx; injection hx with hx; rw [← hx]; exact offersAt_of_not_blocked (by rcases k3.status with e | e <;> rw [e] <;> simp) _ _
theorem CI.noSendK (h : CI P S n0 E R O a w0 kids q gs w t Own W b) {j : Nat} {y : Kid} (hy : kids[j]? = some y) : ∀ (i : Nat) (x : Goroutine), i ≠ n0 + j → gs[i]? = some x → offersAt x y.c true = [] := by
  intro i x h0 hx
  have hlt : i < gs.size := (Array.getElem?_eq_some_iff.1 hx).1
  rcases Nat.eq_zero_or_pos i with rfl | hpos
  · rcases h.main with ⟨_, off, hm⟩ | ⟨_, c, z, hm, _⟩
    · rw [hm] at hx; injection hx with hx; rw [← hx]; exact offersAt_of_not_blocked (by simp) _ _
    · rw [hm] at hx; injection hx with hx; rw [← hx]; exact offersAt_parked_recv' _ _ _ _ _
  by_cases hn : i < n0
  · exact offersAt_of_not_blocked (by rcases (h.old i x (by omega) hn hx).status with e | e <;> rw [e] <;> simp) _ _
  · obtain ⟨k, rfl⟩ : ∃ k, i = n0 + k := ⟨i - n0, by omega⟩
    have hj : k < kids.length := by rw [h.size] at hlt; omega
    have hg := List.getElem?_eq_getElem hj
    have hk := h.kid k kids[k] hg
    cases hk with
    | live k1 k2 k3 k4 k5 => rw [k2] at hx; injection hx with hx; rw [← hx]; exact offersAt_of_not_blocked (by rw [k3.running]; simp) _ _
    | sits v z outs k1 k2 k3 k4 k5 k6 =>
      rw [k2] at hx; injection hx with hx; rw [← hx, offersAt_parked_send]
      rw [if_neg]
      intro e
      exact h0 (by rw [h.ch k j _ y hg hy e])
    | gone g k1 k2 k3 k4 => rw [k2] at hx; injection hx with hx; rw [← hx]; exact offersAt_of_not_blocked (by rcases k3.status with e | e <;> rw [e] <;> simp) _ _
theorem CI.acc (h : CI P S n0 E R O a w0 kids q gs w t Own W b) : Acc (One (KLt P S)) kids := by
  refine acc_one fun x hx => kid_acc x fun hm => ?_
  obtain ⟨j, hj⟩ := List.getElem?_of_mem hx
  have hk := h.kid j x hj
  cases hk with
  | live k1 k2 k3 k4 k5 => exact k3
  | sits _ _ _ k1 => omega
  | gone _ k1 => omega
end
theorem one_set {R : Kid → Kid → Prop} {x y : Kid} (hr : R y x) : ∀ {kids : List Kid} {j : Nat}, kids[j]? = some x → One R (kids.set j y) kids
  | [], j, h => by simp at h
  | k :: l, 0, h => by
    simp only [List.getElem?_cons_zero, Option.some.injEq] at h
    subst h
    exact .here hr
  | k :: l, j + 1, h => .there (one_set hr (by simpa using h))
theorem sum_put {q : Nat → Nat} {n i k : Nat} (hi : i < n) (hq : q i = k + 1) : sumTo n (put q i k) < sumTo n q := by
  have e : put q i k = Go.ConcN.upd q i k := by
    funext m
    unfold put Go.ConcN.upd
    rfl
  have := Go.ConcN.sumTo_upd q k id hi
  rw [e]
  have e1 : ∀ f : Nat → Nat, (fun k => id (f k)) = f := fun f => rfl
  simp only [id_eq, hq] at this
  have h2 : ∀ f : Nat → Nat, sumTo n (fun k => f k) = sumTo n f := fun f => rfl
  simp only [h2] at this
  omega
theorem inner
    (main : ∀ (kids : List Kid) (q : Nat → Nat) (gs : Array Goroutine) (w : World) (sl : Option (Nat × Nat)) (t : Trace) (Own : Nat → Nat → Prop) (W : Nat → World), CI P S n0 E R O a w0 kids q gs w t Own W true →
      (∃ m' ops, runT P (crowd gs w sl) 0 = (.next m', ops) ∧ Fine P Post m' (t ++ ops)) ∨ ∃ c z, RecvAt P S O a w0 c z ∧ ∃ (j : Nat) (x : Kid), kids[j]? = some x ∧ x.c = c ∧ x.m = 2)
    (meet : ∀ c z v outs, RecvAt P S O a w0 c z → E c = some (v :: outs) → ∀ (kids : List Kid) (q : Nat → Nat) (gs : Array Goroutine) (w : World) (sl : Option (Nat × Nat)) (t : Trace) (Own : Nat → Nat → Prop) (W : Nat → World),
      CI P S n0 (put E c (some outs)) R O (Conc.served a (recvd true v true)) w0 kids q gs w t Own W true → Fine P Post (crowd gs w sl) t) :
    ∀ kids, Acc (One (KLt P S)) kids → ∀ (M : Nat) (b : Bool) (q : Nat → Nat) (gs : Array Goroutine) (w : World) (sl : Option (Nat × Nat)) (t : Trace) (Own : Nat → Nat → Prop) (W : Nat → World), 2 * sumTo gs.size q + b.toNat = M → CI P S n0 E R O a w0 kids q gs w t Own W b → Fine P Post (crowd gs w sl) t := by
  intro kids hacc
  induction hacc with
  | intro kids _ ihk =>
    intro M
    induction M using Nat.strongRecOn with
    | ind M ih =>
      intro b q gs w sl t Own W hM hI
      obtain ⟨i, g, d, sl', hi, hg, hst⟩ := crowd_pick (P := P) (w := w) (sl := sl) hI.awake hI.some1
      replace hI := hI.heap (w1 := w.at d) rfl rfl rfl
      generalize w.at d = w' at hI hst
      have hpos0 := hI.pos
      rcases Nat.eq_zero_or_pos i with rfl | hpos
      · -- the main one
        rcases hI.main with ⟨rfl, off, hm⟩ | ⟨rfl, c, z, hm, _⟩
        · rcases main kids q gs w' sl' t Own W hI with ⟨m', ops, hr, hf⟩ | ⟨c, z, hr, j, x, hx, hc, hm2⟩
          · exact .step (hst.trans hr) hf
          · have hs : stepG P (0 == 0) { a with status := .running, offers := off } w' = .comm a #[rcase c z] true (.recv true) w' #[] := hr w' hI.keep0
            obtain ⟨s, r, tm, ho⟩ := (hI.kid j x hx).openC (by omega)
            rw [hc] at ho
            have hno : partners (gs.setIfInBounds 0 ph) c true = [] := stand_nil fun k y hk hy => by
              refine hI.noSend (c := c) (fun i z hz hzc hz1 => ?_) k y hy
              have := hI.ch i j z x hz hx (by rw [hzc, hc])
              subst this
              rw [hx] at hz
              injection hz with hz
              subst hz
              omega
            have hw := crowd_waits (P := P) (sl := sl') (i := 0) hm hs (by
              intro cc hcc
              have : cc = rcase c z := by simpa using hcc
              rw [this]
              exact ways_recv_none ho hno)
            rw [ofE_nil] at hw
            refine .step (hst.trans hw) (ih (2 * sumTo gs.size q) (by rw [← hM]; simp) false q _ w' sl' _ Own W (by simp) ?_)
            refine hI.mainTo (by simp) (fun k hk => Array.getElem?_setIfInBounds_ne (Ne.symm hk)) (fun _ _ _ => rfl) (by simp) (.inr ⟨rfl, c, z, ?_, hr, j, x, hx, hc, hm2⟩) hI.own0 hI.w0 (fun _ _ => ⟨rfl, rfl⟩) hI.res (by simpa using hI.reg)
            have : 0 < gs.size := (Array.getElem?_eq_some_iff.1 hm).1
            simp [this]
        · rw [hm] at hi
          injection hi with hi
          rw [← hi] at hg
          cases hg
      · have hi0 : (i == 0) = false := by simp; omega
        have hilt : i < gs.size := (Array.getElem?_eq_some_iff.1 hi).1
        by_cases hn : i < n0
        · -- one that leaves
          have hq := hI.old i g hpos hn hi
          cases hqi : q i with
          | zero => rw [hqi] at hq; rw [hq.1] at hg; cases hg
          | succ k =>
            rw [hqi] at hq
            rcases hq with ⟨hf, _⟩ | ⟨_, g', es, hmu, hstp, hq'⟩
            · rw [hf] at hg; cases hg
            have hrunT := runT_crowd_go (P := P) (sl := sl') (i := i) hi (by rw [hi0]; exact hstp w')
            refine .step (hst.trans hrunT) (ih _ ?_ b (put q i k) _ w' sl' _ Own W rfl (hI.slipOld hpos hn hmu hq' _ _))
            rw [← hM]
            have := sum_put (n := gs.size) hilt hqi
            simp only [Array.size_setIfInBounds, Array.size_map]
            omega
        · obtain ⟨j, rfl⟩ : ∃ j, i = n0 + j := ⟨i - n0, by omega⟩
          have hj : j < kids.length := by rw [hI.size] at hilt; omega
          obtain ⟨x, hx⟩ : ∃ x, kids[j]? = some x := ⟨kids[j], List.getElem?_eq_getElem hj⟩
          have hki := hI.kid j x hx
          cases hki with
          | live k1 k2 k3 k4 k5 =>
            have e : g = x.g := by rw [k2] at hi; injection hi with hi; exact hi.symm
            subst e
            have hkeep := hI.keepK hx (by omega)
            obtain ⟨xo, hxo⟩ : ∃ xo, x.outs = xo := ⟨_, rfl⟩
            rw [hxo] at k3
            cases k3 with
            | own hr h1 h2 =>
              obtain ⟨g1, w1, es, hs, hd, he⟩ := h1 w' hkeep
              have hrunT := runT_crowd_go (P := P) (sl := sl') (i := n0 + j) hi (by rw [hi0]; exact hs)
              have hkt := h2 w' g1 w1 es hkeep hs
              rw [← hxo] at hkt
              have hdL : DidO (Own (n0 + j)) w' w1 := by rw [(hI.kown j x hx).1]; exact hd
              have hch := hI.chan_did (hI.liveK hx) hdL
              have hall := hI.woken (w1 := w1) (fun i z hz hm => ((hI.kid i z hz).openC hm).of (hch i z hz)) x.g g1
              refine .step (hst.trans hrunT) (ihk _ (one_set (y := { x with own := own x.own w' w1, g := g1, w := w1 }) ?_ hx) _ b q _ w1 sl' _ _ _ rfl (hI.kidOwn hx k1 hkt hd he _ _ _ fun i z _ hz => hall i z hz))
              obtain ⟨s, r, tm, ho⟩ := k4
              exact ⟨k1, .inr ⟨k1, rfl, rfl, w', es, 0, s, r, tm, ho, hkeep, hs, he, rfl⟩⟩
            | @send v z outs _ _ _ hr h1 h2 =>
              have hs : stepG P (n0 + j == 0) x.g w' = .comm x.g #[scase x.c v z] true .send w' #[] := by rw [hi0]; exact h1 w' hkeep
              obtain ⟨s, r, tm, ho⟩ := id k4
              by_cases hw : ∃ z, gs[0]? = some (parked a #[rcase x.c z] (.recv true))
              · obtain ⟨z0, hw⟩ := hw
                have hrecv : RecvAt P S O a w0 x.c z0 := by
                  rcases hI.main with ⟨_, off, hm⟩ | ⟨_, c, z, hm, hr, _⟩
                  · rw [hm] at hw
                    injection hw with hw
                    have := congrArg Goroutine.status hw
                    cases this
                  · rw [hm] at hw
                    injection hw with hw
                    have := congrArg Goroutine.offers hw
                    simp only [parked, Option.some.injEq, Prod.mk.injEq, rcase] at this
                    have h3 := this.1
                    simp only [Array.mk.injEq, List.cons.injEq, CommCase.mk.injEq, Value.chan.injEq, Option.some.injEq] at h3
                    obtain ⟨⟨rfl, _, rfl⟩, _⟩ := h3
                    exact hr
                have hp : partners (gs.setIfInBounds (n0 + j) ph) x.c false = [(0, 0)] := by
                  have := partners_one (gs := gs.setIfInBounds (n0 + j) ph) (r := x.c) (send := false) (j := 0) (stand_get (i := n0 + j) (by omega) hw) fun k y hk hy => by
                    rcases getElem?_stand gs (n0 + j) k y hy with ⟨_, rfl⟩ | ⟨_, hy⟩
                    · exact offersAt_ph _ _
                    · exact hI.noRecvK x.c k y hk hy
                  rw [this, offersAt_parked_recv, if_pos rfl]
                  rfl
                have hrunT := crowd_send_meets (P := P) (sl := sl') (i := n0 + j) (j := 0) hi hs ho (by omega) hw hp
                rw [ofE_nil, finishComm_send, finishComm_recv] at hrunT
                refine .step (hst.trans hrunT) (meet x.c z0 v outs hrecv (by rw [k5, hxo]) (kids.set j { x with outs := outs, g := Conc.served x.g undef, m := 2 }) q _ _ sl' _ Own W ?_)
                have h0lt : 0 < gs.size := (Array.getElem?_eq_some_iff.1 hw).1
                refine hI.meet hx (by omega) h2 (w1 := w'.setChan x.c 0 #[] false (s + 1) (r + 1) tm) rfl rfl rfl (by simp) ?_ ?_ (fun i h1 h2 => ?_) fun op hop => ?_
                · rw [Array.getElem?_setIfInBounds_ne (by omega)]
                  simp [h0lt]
                · simp [hilt]
                · rw [Array.getElem?_setIfInBounds_ne (Ne.symm h2), Array.getElem?_setIfInBounds_ne (Ne.symm h1)]
                · have hlow := hI.lowC hx
                  simp only [Array.empty_append, List.mem_toArray, List.mem_cons, List.not_mem_nil, or_false] at hop
                  rcases hop with rfl | rfl | rfl | rfl
                  · exact ⟨.inr rfl, rfl, hlow, by simp, by simp⟩
                  · exact ⟨.inl rfl, rfl, hlow, by simp, by simp⟩
                  · exact ⟨.inr rfl, rfl, hlow, by simp, by simp⟩
                  · exact ⟨.inl rfl, rfl, hlow, by simp, by simp⟩
              · have hno : ∀ z, gs[0]? ≠ some (parked a #[rcase x.c z] (.recv true)) := fun z hz => hw ⟨z, hz⟩
                have hp : partners (gs.setIfInBounds (n0 + j) ph) x.c false = [] := stand_nil fun k y _ hy => hI.noRecv hno k y hy
                have hrunT := crowd_waits (P := P) (sl := sl') (i := n0 + j) hi hs (by
                  intro cc hcc
                  have : cc = scase x.c v z := by simpa using hcc
                  rw [this]
                  exact ways_send_none ho (Nat.le_refl _) hp)
                rw [ofE_nil] at hrunT
                have hsit := hI.kidSit hx k1 (z := z) hxo h2 hno
                refine .step (hst.trans hrunT) (ihk _ (one_set (y := { x with m := 1 }) ⟨k1, .inl (by simp)⟩ hx) _ b q _ w' sl' _ Own W rfl ?_)
                simpa using hsit
            | @shut _ _ g1 _ n hr hwk h1 h2 =>
              obtain ⟨s, r, tm, ho⟩ := id k4
              have hs := h1 w' 0 s r tm hkeep ho
              have hrunT := runT_crowd_go (P := P) (sl := sl') (i := n0 + j) hi (by rw [hi0]; exact hs)
              obtain ⟨b', hc⟩ := hI.kidShut hx k1 hxo h2 s r tm x.g.frame.fn x.g.frame.place hwk
              exact .step (hst.trans hrunT) (ihk _ (one_set (y := { x with m := 0 }) ⟨k1, .inl (by simp)⟩ hx) _ b' _ _ _ sl' _ Own W rfl hc)
          | sits v z outs k1 k2 k3 k4 k5 k6 =>
            rw [k2] at hi
            injection hi with hi
            rw [← hi] at hg
            cases hg
          | gone g0 k1 k2 k3 k4 =>
            have e : g0 = g := by rw [k2] at hi; injection hi
            subst e
            cases hqi : q (n0 + j) with
            | zero => rw [hqi] at k3; rw [show g0.status = .finished from k3] at hg; cases hg
            | succ k =>
              rw [hqi] at k3
              rcases k3 with hf | ⟨_, g', hstp, hq'⟩
              · rw [hf] at hg; cases hg
              have hrunT := runT_crowd_go (P := P) (sl := sl') (i := n0 + j) hi (by rw [hi0]; exact hstp w')
              refine .step (hst.trans hrunT) (ih _ ?_ b (put q (n0 + j) k) _ w' sl' _ Own W rfl (hI.slipGone hx k1 hq' _ _))
              rw [← hM]
              have := sum_put (n := gs.size) hilt hqi
              simp only [Array.size_setIfInBounds, Array.size_map]
              omega
end
end Go.Proofs.Ytgeoffpcmkofkaa
/- The machine with one that starts others and receives from them comes to the end, whatever the tape: the whole. -/
namespace Go.Proofs.Ytgeoffpcmkofkaa
open Go Go.Conc

section
variable {P : Program} {S : Nat → Prop} {n0 : Nat} {E : Nat → Option (List Value)} {R : Option Nat} {O : Nat → Prop} {a : Goroutine} {w0 : World} {Post : Value → World → Prop} {Fin : Goroutine → World → Prop}
theorem recvAt_eq {c c' : Nat} {z z' : Value} (h : RecvAt P S O a w0 c z) (h' : RecvAt P S O a w0 c' z') : c' = c ∧ z' = z := by
  have e := h w0 (Keeps.refl _ _ _)
  rw [h' w0 (Keeps.refl _ _ _)] at e
  injection e with _ e
  simp only [rcase, Array.mk.injEq, List.cons.injEq, CommCase.mk.injEq, Value.chan.injEq, Option.some.injEq] at e
  exact ⟨e.1.1, e.1.2.2⟩
theorem run_eta {a1 : Goroutine} (h : a1.status = .running) : some a1 = some { a1 with status := .running, offers := a1.offers } := by
  obtain ⟨f, c, s, d, o⟩ := a1
  simp only at h
  subst h
  rfl
section
variable {kids : List Kid} {q : Nat → Nat} {gs : Array Goroutine} {w w1 : World} {t : Trace} {Own : Nat → Nat → Prop} {W : Nat → World} {b : Bool}
/-- One more is started. -/
theorem CI.spawn {c : Nat} (h : CI P S n0 E (some c) O a w0 kids q gs w t Own W b) {a1 child : Goroutine} {outs : List Value} (h1 : a1.status = .running) (hk : KT P S c outs (fun _ => False) child w) {x y : MemOp} (hx : x.g = 0 ∧ x.act = .go gs.size) (hy : y.g = gs.size ∧ y.act = .start) :
    CI P S n0 (put E c (some outs)) none O a1 w0 (kids ++ [⟨c, outs, fun _ => False, child, w, 2⟩]) q ((gs.setIfInBounds 0 a1).push child) w (t ++ #[x, y]) (put Own gs.size fun _ => False) (put W gs.size w) true := by
  have hpos := h.pos
  have hsz := h.size
  obtain ⟨⟨tm, c1⟩, c2, c3, c4⟩ := h.res c rfl
  have hclt : c < w.heap.size := (Array.getElem?_eq_some_iff.1 c1).1
  have h0lt : 0 < gs.size := by omega
  have hss : ((gs.setIfInBounds 0 a1).push child).size = gs.size + 1 := by simp
  have hget : ∀ i, i ≠ 0 → i < gs.size → ((gs.setIfInBounds 0 a1).push child)[i]? = gs[i]? := fun i hi hlt => by
    rw [Array.getElem?_push_lt (by simpa using hlt)]
    simp [hlt, Ne.symm hi]
  have hnew : ((gs.setIfInBounds 0 a1).push child)[gs.size]? = some child := by
    have : gs.size = (gs.setIfInBounds 0 a1).size := by simp
    rw [this]
    exact Array.getElem?_push_size
  have hchs : ∀ d, Chs (kids ++ [⟨c, outs, fun _ => False, child, w, 2⟩]) d ↔ Chs kids d ∨ d = c := by
    intro d
    refine ⟨fun ⟨j, z, hz, hd⟩ => ?_, fun hd => ?_⟩
    · rcases Nat.lt_or_ge j kids.length with hj | hj
      · rw [List.getElem?_append_left hj] at hz
        exact .inl ⟨j, z, hz, hd⟩
      · rw [List.getElem?_append_right hj] at hz
        have : j - kids.length = 0 := by
          rcases Nat.eq_zero_or_pos (j - kids.length) with e | e
          · exact e
          · rw [List.getElem?_eq_none (by simp; omega)] at hz; cases hz
        rw [this] at hz
        simp only [List.getElem?_cons_zero, Option.some.injEq] at hz
        subst hz
        exact .inr hd.symm
    · rcases hd with ⟨j, z, hz, hd⟩ | rfl
      · exact ⟨j, z, by rw [List.getElem?_append_left (List.getElem?_eq_some_iff.1 hz).1]; exact hz, hd⟩
      · exact ⟨kids.length, ⟨d, outs, fun _ => False, child, w, 2⟩, by rw [List.getElem?_append_right (Nat.le_refl _)]; simp, rfl⟩
  have kcases : ∀ (j : Nat) (z : Kid), (kids ++ [⟨c, outs, fun _ => False, child, w, 2⟩])[j]? = some z → kids[j]? = some z ∨ (j = kids.length ∧ z = ⟨c, outs, fun _ => False, child, w, 2⟩) := by
    intro j z hz
    rcases Nat.lt_or_ge j kids.length with hj | hj
    · rw [List.getElem?_append_left hj] at hz
      exact .inl hz
    · rw [List.getElem?_append_right hj] at hz
      have : j - kids.length = 0 := by
        rcases Nat.eq_zero_or_pos (j - kids.length) with e | e
        · exact e
        · rw [List.getElem?_eq_none (by simp; omega)] at hz; cases hz
      rw [this] at hz
      simp only [List.getElem?_cons_zero, Option.some.injEq] at hz
      exact .inr ⟨by omega, hz.symm⟩
  have hdeaf : ∀ g, Deaf (t ++ #[x, y]) g = Deaf t g := fun g => deaf_same fun op hop => by
    have : op = x ∨ op = y := by simpa using hop
    rcases this with rfl | rfl
    · rw [hx.2]; simp
    · rw [hy.2]; simp
  have hreg := h.reg.fork (Live' := LiveG n0 (gs.size + 1)) (Ch' := Chs (kids ++ [⟨c, outs, fun _ => False, child, w, 2⟩])) (.inl rfl) (k := gs.size) (by rintro (e | e) <;> omega) (h.above _ (Nat.le_refl _)) hx hy (fun g => by unfold LiveG; omega) hchs hclt c3 c2
  refine ⟨hpos, by simp [hsz]; omega, fun i g k1 k2 hg => ?_, fun j hj => ?_, .inl ⟨rfl, a1.offers, ?_⟩, by rw [put_ne _ _ (by omega)]; exact h.own0, by rw [put_ne _ _ (by omega)]; exact h.w0, fun j z hz => ?_, fun j z hz => ?_, fun i j z z' hz hz' he => ?_, (fun c hc => by cases hc), fun d o hd => ?_, by rw [hss]; exact hreg⟩
  · rw [hdeaf]
    exact h.old i g k1 k2 (by rw [← hget i (by omega) (by omega)]; exact hg)
  · rw [hdeaf]; exact h.above j (by simp at hj; omega)
  · rw [← run_eta h1, Array.getElem?_push_lt (by simpa using h0lt)]
    simp
  · rcases kcases j z hz with hz | ⟨rfl, rfl⟩
    · have hj := (List.getElem?_eq_some_iff.1 hz).1
      have hne : z.c ≠ c := fun e => c4 ⟨j, z, hz, e⟩
      refine (h.kid j z hz).keep (hget _ (by omega) (by omega)) rfl (put_ne _ _ hne) rfl fun op hop hg => ?_
      have : op = x ∨ op = y := by simpa using hop
      rcases this with rfl | rfl
      · omega
      · omega
    · exact .live rfl (by rw [← hsz]; exact hnew) hk ⟨0, 0, tm, c1⟩ (put_same _ _ _)
  · rcases kcases j z hz with hz | ⟨rfl, rfl⟩
    · have hj := (List.getElem?_eq_some_iff.1 hz).1
      rw [put_ne _ _ (by omega), put_ne _ _ (by omega)]
      exact h.kown j z hz
    · rw [← hsz, put_same, put_same]
      exact ⟨rfl, fun _ => rfl⟩
  · rcases kcases i z hz with hz | ⟨rfl, rfl⟩ <;> rcases kcases j z' hz' with hz' | ⟨rfl, rfl⟩
    · exact h.ch i j z z' hz hz' he
    · exact absurd ⟨i, z, hz, he⟩ c4
    · exact absurd ⟨j, z', hz', he.symm⟩ c4
    · rfl
  · rw [hchs]
    by_cases e : d = c
    · exact .inr e
    · rw [put_ne _ _ e] at hd
      exact .inl (h.exp d o hd)
end
theorem crowd_fine
    (fin : ∀ (a : Goroutine) (gs : Array Goroutine) (w : World) (sl : Option (Nat × Nat)) (t : Trace) (q : Nat → Nat) (off : Option (Array CommCase × CommShape)), Fin a w → gs[0]? = some { a with status := .running, offers := off } → Leavers P t gs q → Past (fun _ => False) w.heap.size t → Fine P Post (crowd gs w sl) t)
    (h : MB P S Fin E R O a w0) : ∀ (kids : List Kid) (q : Nat → Nat) (gs : Array Goroutine) (w : World) (sl : Option (Nat × Nat)) (t : Trace) (Own : Nat → Nat → Prop) (W : Nat → World) (b : Bool), CI P S n0 E R O a w0 kids q gs w t Own W b → Fine P Post (crowd gs w sl) t := by
  induction h with
  | @own E R O a w0 hr h1 h2 ih =>
    intro kids q gs w sl t Own W b hI
    refine inner (fun kids q gs w sl t Own W hI => .inl ?_) (fun c z v outs hrec => ?_) kids hI.acc _ b q gs w sl t Own W rfl hI
    · obtain ⟨a1, w1, es, hs, ha1, hd, he⟩ := h1 w hI.keep0
      obtain ⟨off, hm⟩ : ∃ off, gs[0]? = some { a with status := .running, offers := off } := by
        rcases hI.main with ⟨_, k⟩ | ⟨k, _⟩
        · exact k
        · cases k
      have hlt : 0 < gs.size := (Array.getElem?_eq_some_iff.1 hm).1
      have hrunT := runT_crowd_go (P := P) (sl := sl) (i := 0) (g' := a1) (w' := w1) (es := es) hm hs
      refine ⟨_, _, hrunT, ih w a1 w1 es hI.keep0 hs kids q _ w1 sl _ (put Own 0 (own O w w1)) (put W 0 w1) true ?_⟩
      have hdL : DidO (Own 0) w w1 := by rw [hI.own0]; exact hd
      have hch := hI.chan_did (.inl rfl) hdL
      have hres := hI.res_did (.inl rfl) hdL
      have hreg := hI.reg.step (.inl rfl) hdL (es := es) (by rw [hI.own0]; exact he) a.frame.fn a.frame.place
      rw [hI.own0] at hres hreg
      have hall := hI.woken (w1 := w1) (fun i z hz hm => ((hI.kid i z hz).openC hm).of (hch i z hz)) { a with status := .running, offers := off } a1
      refine hI.mainTo (by simp) (set_get _ _ _ _ fun i x _ hx => hall i x hx) hch (calm_of he) (.inl ⟨rfl, a1.offers, ?_⟩) (put_same _ _ _) (put_same _ _ _) (fun i hi => ⟨put_ne _ _ hi, put_ne _ _ hi⟩) hres hreg
      rw [← run_eta ha1]
      exact set_at _ _ _ hlt
    · obtain ⟨a1, w1, es, hs, _⟩ := h1 w0 (Keeps.refl _ _ _)
      have := hrec w0 (Keeps.refl _ _ _)
      rw [hs] at this
      cases this
  | @make E O a w0 tm hr h1 h2 ih =>
    intro kids q gs w sl t Own W b hI
    refine inner (fun kids q gs w sl t Own W hI => .inl ?_) (fun c z v outs hrec => ?_) kids hI.acc _ b q gs w sl t Own W rfl hI
    · obtain ⟨a1, hs, ha1⟩ := h1 w hI.keep0
      obtain ⟨off, hm⟩ : ∃ off, gs[0]? = some { a with status := .running, offers := off } := by
        rcases hI.main with ⟨_, k⟩ | ⟨k, _⟩
        · exact k
        · cases k
      have hlt : 0 < gs.size := (Array.getElem?_eq_some_iff.1 hm).1
      have hrunT := runT_crowd_go (P := P) (sl := sl) (i := 0) (g' := a1) (es := #[]) hm hs
      have hih := ih w a1 _ #[] hI.keep0 hs
      generalize hw1 : ({ w with heap := w.heap.push (.chan 0 #[] false 0 0 tm) } : World) = w1 at hrunT hih
      have hh1 : w1.heap = w.heap.push (.chan 0 #[] false 0 0 tm) := by rw [← hw1]
      refine ⟨_, _, hrunT, hih kids q _ w1 sl _ Own (put W 0 w1) true ?_⟩
      have hch : ∀ (i : Nat) (z : Kid), kids[i]? = some z → w1.heap[z.c]? = w.heap[z.c]? := fun i z hz => by
        have := hI.lowC hz
        rw [hh1, Array.getElem?_push_lt this]
        simp [this]
      have hall := hI.woken (w1 := w1) (fun i z hz hm => ((hI.kid i z hz).openC hm).of (hch i z hz)) { a with status := .running, offers := off } a1
      rw [ofE_nil]
      refine hI.mainTo (by simp) (set_get _ _ _ _ fun i x _ hx => hall i x hx) hch (by simp) (.inl ⟨rfl, a1.offers, ?_⟩) hI.own0 (put_same _ _ _) (fun i hi => ⟨rfl, put_ne _ _ hi⟩) (fun c hc => ?_) (by simpa using (hI.reg.new hh1 (by rw [← hw1]) (by rw [← hw1])).now 0)
      · rw [← run_eta ha1]
        exact set_at _ _ _ hlt
      · injection hc with hc
        subst hc
        refine ⟨⟨tm, by rw [hh1]; exact Array.getElem?_push_size⟩, fun hs => ?_, fun g hg ho => ?_, fun hs => ?_⟩
        · exact Nat.lt_irrefl _ (hI.reg.sLow _ hs)
        · exact Nat.lt_irrefl _ (hI.reg.low g _ hg ho)
        · exact Nat.lt_irrefl _ (hI.reg.cLow _ hs)
    · obtain ⟨a1, hs, _⟩ := h1 w0 (Keeps.refl _ _ _)
      have := hrec w0 (Keeps.refl _ _ _)
      rw [hs] at this
      cases this
  | @spawn E c outs O a a1 child w0 hr hr1 h1 h2 _ ih =>
    intro kids q gs w sl t Own W b hI
    refine inner (fun kids q gs w sl t Own W hI => .inl ?_) (fun c z v outs hrec => ?_) kids hI.acc _ b q gs w sl t Own W rfl hI
    · obtain ⟨off, hm⟩ : ∃ off, gs[0]? = some { a with status := .running, offers := off } := by
        rcases hI.main with ⟨_, k⟩ | ⟨k, _⟩
        · exact k
        · cases k
      have hrunT := runT_crowd_spawn (P := P) (sl := sl) (i := 0) (g' := a1) (child := child) (w' := w) (es := #[]) hm (h1 w hI.keep0)
      rw [ofE_nil] at hrunT
      refine ⟨_, _, hrunT, ?_⟩
      have := hI.spawn hr1 (h2 w hI.keep0) (x := { g := 0, fn := a.frame.fn, pos := a.frame.place, act := .go gs.size }) (y := { g := gs.size, fn := child.frame.fn, pos := a.frame.place, act := .start }) ⟨rfl, rfl⟩ ⟨rfl, rfl⟩
      exact ih _ q _ w sl _ _ _ true this
    · have e := h1 w0 (Keeps.refl _ _ _)
      have := hrec w0 (Keeps.refl _ _ _)
      rw [e] at this
      cases this
  | @recv E R c v z outs O a w0 hr h1 h2 _ ih =>
    intro kids q gs w sl t Own W b hI
    refine inner (fun kids q gs w sl t Own W hI => ?_) (fun c' z' v' outs' hrec hE => ?_) kids hI.acc _ b q gs w sl t Own W rfl hI
    · obtain ⟨j, x, hx, hc⟩ := hI.exp c _ h2
      subst hc
      have hki := hI.kid j x hx
      cases hki with
      | live k1 k2 k3 k4 k5 => exact .inr ⟨x.c, z, h1, j, x, hx, rfl, k1⟩
      | gone g0 k1 k2 k3 k4 =>
        rcases k4 with ⟨k, _⟩ | ⟨k, _⟩
        · rw [h2] at k; cases k
        · rw [h2] at k; cases k
      | sits v0 z0 outs0 k1 k2 k3 k4 k5 k6 =>
        left
        obtain ⟨off, hm⟩ : ∃ off, gs[0]? = some { a with status := .running, offers := off } := by
          rcases hI.main with ⟨_, k⟩ | ⟨k, _⟩
          · exact k
          · cases k
        have hlt : 0 < gs.size := (Array.getElem?_eq_some_iff.1 hm).1
        have hpos := hI.pos
        obtain ⟨e1, e2⟩ : v0 = v ∧ outs0 = outs := by
          rw [h2, k3] at k6
          injection k6 with k6
          injection k6 with k6 k7
          exact ⟨k6.symm, k7.symm⟩
        subst e1 e2
        obtain ⟨s, r, tm, ho⟩ := k5
        have hp : partners (gs.setIfInBounds 0 ph) x.c true = [(n0 + j, 0)] := by
          have := partners_one (gs := gs.setIfInBounds 0 ph) (r := x.c) (send := true) (j := n0 + j) (stand_get (i := 0) (by omega) k2) fun k y hk hy => by
            rcases getElem?_stand gs 0 k y hy with ⟨_, rfl⟩ | ⟨_, hy⟩
            · exact offersAt_ph _ _
            · exact hI.noSendK hx k y hk hy
          rw [this, offersAt_parked_send, if_pos rfl]
          rfl
        have hrunT := crowd_recv_meets (P := P) (sl := sl) (i := 0) (j := n0 + j) hm (h1 w hI.keep0) ho (by omega) k2 hp
        rw [ofE_nil, finishComm_send, finishComm_recv] at hrunT
        refine ⟨_, _, hrunT, ih (kids.set j { x with outs := outs0, g := Conc.served x.g undef, m := 2 }) q _ _ sl _ Own W true ?_⟩
        have hklt := hI.gsK hx
        refine hI.meet hx (by omega) k4 (w1 := w.setChan x.c 0 #[] false (s + 1) (r + 1) tm) rfl rfl rfl (by simp) ?_ ?_ (fun i h1 h2 => ?_) fun op hop => ?_
        · simp [hlt]
        · rw [Array.getElem?_setIfInBounds_ne (by omega)]
          simp [hklt]
        · rw [Array.getElem?_setIfInBounds_ne (Ne.symm h1), Array.getElem?_setIfInBounds_ne (Ne.symm h2)]
        · have hlow := hI.lowC hx
          simp only [Array.empty_append, List.mem_toArray, List.mem_cons, List.not_mem_nil, or_false] at hop
          rcases hop with rfl | rfl | rfl | rfl
          · exact ⟨.inr rfl, rfl, hlow, by simp, by simp⟩
          · exact ⟨.inl rfl, rfl, hlow, by simp, by simp⟩
          · exact ⟨.inr rfl, rfl, hlow, by simp, by simp⟩
          · exact ⟨.inl rfl, rfl, hlow, by simp, by simp⟩
    · obtain ⟨rfl, rfl⟩ := recvAt_eq h1 hrec
      rw [h2] at hE
      injection hE with hE
      injection hE with e1 e2
      subst e1 e2
      exact fun kids q gs w sl t Own W hI => ih kids q gs w sl t Own W true hI
  | @last E R c z O a w0 hr h1 h2 _ ih =>
    intro kids q gs w sl t Own W b hI
    refine inner (fun kids q gs w sl t Own W hI => ?_) (fun c' z' v' outs' hrec hE => ?_) kids hI.acc _ b q gs w sl t Own W rfl hI
    · obtain ⟨j, x, hx, hc⟩ := hI.exp c _ h2
      subst hc
      have hki := hI.kid j x hx
      cases hki with
      | live k1 k2 k3 k4 k5 => exact .inr ⟨x.c, z, h1, j, x, hx, rfl, k1⟩
      | sits v0 z0 outs0 k1 k2 k3 k4 k5 k6 => rw [h2, k3] at k6; cases k6
      | gone g0 k1 k2 k3 k4 =>
        left
        obtain ⟨off, hm⟩ : ∃ off, gs[0]? = some { a with status := .running, offers := off } := by
          rcases hI.main with ⟨_, k⟩ | ⟨k, _⟩
          · exact k
          · cases k
        have hlt : 0 < gs.size := (Array.getElem?_eq_some_iff.1 hm).1
        obtain ⟨s, r, tm, ho⟩ : ShutC w x.c := by
          rcases k4 with ⟨_, k, _⟩ | ⟨k, _⟩
          · exact k
          · rw [h2] at k; cases k
        have hp : partners (gs.setIfInBounds 0 ph) x.c true = [] := stand_nil fun k y _ hy => by
          refine hI.noSend (c := x.c) (fun i z hz hzc hz1 => ?_) k y hy
          have := hI.ch i j z x hz hx hzc
          subst this
          rw [hx] at hz
          injection hz with hz
          subst hz
          omega
        have hrunT := crowd_recv_closed (P := P) (sl := sl) (i := 0) hm (h1 w hI.keep0) ho hp
        rw [ofE_nil, finishComm_recv] at hrunT
        refine ⟨_, _, hrunT, ih kids q _ w sl _ Own W true ?_⟩
        have := hI.last hx h2 k1 (v := recvd true z false) (gs' := gs.setIfInBounds 0 (Conc.served a (recvd true z false))) (by simp) (by simp [hlt]) (fun i hi => Array.getElem?_setIfInBounds_ne (Ne.symm hi)) (y := { g := 0, fn := a.frame.fn, pos := a.frame.place, act := .recvClosed x.c }) ⟨rfl, rfl⟩
        simpa using this
    · obtain ⟨rfl, rfl⟩ := recvAt_eq h1 hrec
      rw [h2] at hE
      cases hE
  | @stop E O a w0 h1 h2 =>
    intro kids q gs w sl t Own W b hI
    have gone : ∀ (j : Nat) (x : Kid), kids[j]? = some x → ∃ g, gs[n0 + j]? = some g ∧ QuitsIn P (q (n0 + j)) g ∧ AllKnown (n0 + j) t := by
      intro j x hx
      have hki := hI.kid j x hx
      cases hki with
      | live k1 k2 k3 k4 k5 => rw [h1] at k5; cases k5
      | sits v0 z0 outs0 k1 k2 k3 k4 k5 k6 => rw [h1] at k6; cases k6
      | gone g0 k1 k2 k3 k4 =>
        rcases k4 with ⟨k, _⟩ | ⟨_, k⟩
        · rw [h1] at k; cases k
        · exact ⟨g0, k2, k3, k⟩
    have hkid : ∀ i, n0 ≤ i → i < gs.size → ∃ j x, i = n0 + j ∧ kids[j]? = some x := by
      intro i h1 h2
      rw [hI.size] at h2
      exact ⟨i - n0, kids[i - n0]'(by omega), by omega, List.getElem?_eq_getElem (by omega)⟩
    rcases hI.main with ⟨_, off, hm⟩ | ⟨_, c, z, hm, hr, j, x, hx, _, hm2⟩
    · refine fin a gs w sl t q off (h2 w hI.keep0) hm ⟨fun i g hi hg => ?_, hI.above⟩ (hI.reg.tb.toPast (.inl rfl) fun g hg hne => ?_)
      · have hlt : i < gs.size := (Array.getElem?_eq_some_iff.1 hg).1
        by_cases hn : i < n0
        · exact hI.old i g hi hn hg
        · obtain ⟨j, x, rfl, hx⟩ := hkid i (by omega) hlt
          obtain ⟨g0, k1, k2, _⟩ := gone j x hx
          rw [k1] at hg
          injection hg with hg
          subst hg
          rw [hI.reg.tb.hears _ (.inr ⟨by omega, hlt⟩)]
          exact QuitsD.of_quitsIn k2
      · rcases hg with hg | ⟨hg, hlt⟩
        · exact absurd hg hne
        · obtain ⟨j, x, rfl, hx⟩ := hkid g hg hlt
          exact (gone j x hx).choose_spec.2.2
    · have := (hI.kid j x hx).exp (by omega)
      rw [h1] at this
      cases this
end
end Go.Proofs.Ytgeoffpcmkofkaa
/- Trees are built step by step. -/
namespace Go.Proofs.Ytgeoffpcmkofkaa
open Go Go.Conc

section
variable {P : Program} {S : Nat → Prop} {c : Nat} {outs : List Value} {O O' : Nat → Prop} {g g1 : Goroutine} {w w' w1 w2 : World} {Fin : Goroutine → World → Prop} {E : Nat → Option (List Value)} {R : Option Nat} {a a1 : Goroutine}
theorem own_same (h : w1.heap.size = w2.heap.size) : own O w2 w1 = O := by
  funext r
  unfold own
  refine propext ⟨fun k => k.elim id fun k => ?_, .inl⟩
  omega
theorem Keeps.sub (h : Keeps O' S w w2) (k : ∀ r, O r → O' r) : Keeps O S w w2 := ⟨h.size, fun r hr => h.block r (hr.imp (k r) id), h.os, h.output⟩
theorem DidO.sub (h : DidO O w2 w1) (k : ∀ r, O r → O' r) : DidO O' w2 w1 := ⟨h.os, h.tape, h.output, h.size, fun r hr hn => h.kept r hr fun ho => hn (k r ho)⟩
theorem EvW.sub {e : Event} (h : EvW O S e) (k : ∀ r, O r → O' r) : EvW O' S e := by
  rcases h with ⟨a, h1, h2⟩ | h | ⟨r, h1, h2⟩
  · exact .inl ⟨a, h1, h2.imp (k _) id⟩
  · exact .inr (.inl h)
  · exact .inr (.inr ⟨r, h1, k r h2⟩)
theorem own_sub (k : ∀ r, O r → O' r) : ∀ r, own O w2 w1 r → own O' w2 w1 r := fun r h => h.imp (k r) id
theorem KT.keeps (h : KT P S c outs O g w) : ∀ {w'}, Keeps O S w w' → KT P S c outs O g w' := by
  induction h with
  | own hr h1 h2 _ => exact fun k => .own hr (fun w2 k2 => h1 w2 (k.trans k2)) fun w2 g1 w1 es k2 hs => h2 w2 g1 w1 es (k.trans k2) hs
  | send hr h1 _ ih => exact fun k => .send hr (fun w2 k2 => h1 w2 (k.trans k2)) (ih k)
  | shut hr hw h1 h2 => exact fun k => .shut hr hw (fun w2 cap s r tm k2 hc => h1 w2 cap s r tm (k.trans k2) hc) h2
theorem MB.keeps (h : MB P S Fin E R O a w) : ∀ {w'}, Keeps O S w w' → MB P S Fin E R O a w' := by
  induction h with
  | own hr h1 h2 _ => exact fun k => .own hr (fun w2 k2 => h1 w2 (k.trans k2)) fun w2 g1 w1 es k2 hs => h2 w2 g1 w1 es (k.trans k2) hs
  | make hr h1 h2 _ => exact fun k => .make hr (fun w2 k2 => h1 w2 (k.trans k2)) fun w2 g1 w1 es k2 hs => h2 w2 g1 w1 es (k.trans k2) hs
  | spawn hr hr1 h1 h2 _ ih => exact fun k => .spawn hr hr1 (fun w2 k2 => h1 w2 (k.trans k2)) (fun w2 k2 => h2 w2 (k.trans k2)) (ih k)
  | recv hr h1 h2 _ ih => exact fun k => .recv hr (fun w2 k2 => h1 w2 (k.trans k2)) h2 (ih k)
  | last hr h1 h2 _ ih => exact fun k => .last hr (fun w2 k2 => h1 w2 (k.trans k2)) h2 (ih k)
  | stop h1 h2 => exact fun k => .stop h1 fun w2 k2 => h2 w2 (k.trans k2)
theorem KT.go1 (hr : g.status = .running) (h : ∀ w2, Keeps O S w w2 → ∃ g1 w1 es, stepG P false g w2 = .go g1 w1 es ∧ DidO O w2 w1 ∧ (∀ e ∈ es, EvW (Ytgeoffpcmkofkaa.own O w2 w1) S e) ∧ KT P S c outs (Ytgeoffpcmkofkaa.own O w2 w1) g1 w1) : KT P S c outs O g w := by
  refine .own hr (fun w2 k => ?_) fun w2 g1 w1 es k hs => ?_
  · obtain ⟨g1, w1, es, h1, h2, h3, _⟩ := h w2 k
    exact ⟨g1, w1, es, h1, h2, h3⟩
  · obtain ⟨g1', w1', es', h1, _, _, h4⟩ := h w2 k
    rw [h1] at hs
    injection hs with e1 e2 _
    subst e1 e2
    exact h4
theorem MB.go1 (hr : a.status = .running) (h : ∀ w2, Keeps O S w w2 → ∃ a1 w1 es, stepG P true a w2 = .go a1 w1 es ∧ a1.status = .running ∧ DidO O w2 w1 ∧ (∀ e ∈ es, EvW (Ytgeoffpcmkofkaa.own O w2 w1) S e) ∧ MB P S Fin E R (Ytgeoffpcmkofkaa.own O w2 w1) a1 w1) : MB P S Fin E R O a w := by
  refine .own hr (fun w2 k => ?_) fun w2 g1 w1 es k hs => ?_
  · obtain ⟨g1, w1, es, h1, h2, h3, h4, _⟩ := h w2 k
    exact ⟨g1, w1, es, h1, h2, h3, h4⟩
  · obtain ⟨g1', w1', es', h1, _, _, _, h4⟩ := h w2 k
    rw [h1] at hs
    injection hs with e1 e2 _
    subst e1 e2
    exact h4
theorem DidO.refl (O : Nat → Prop) (w : World) : DidO O w w := ⟨rfl, rfl, rfl, Nat.le_refl _, fun _ _ _ => rfl⟩
/-- A step that only reads. -/
theorem KT.look (hr : g.status = .running) (h : ∀ w2, Keeps O S w w2 → ∃ es, stepG P false g w2 = .go g1 w2 es ∧ ∀ e ∈ es, EvW O S e) (k : KT P S c outs O g1 w) : KT P S c outs O g w :=
  .go1 hr fun w2 k2 => by
    obtain ⟨es, h1, h2⟩ := h w2 k2
    exact ⟨g1, w2, es, h1, .refl _ _, by rw [own_same rfl]; exact h2, by rw [own_same rfl]; exact k.keeps k2⟩
theorem MB.look (hr : a.status = .running) (hr1 : a1.status = .running) (h : ∀ w2, Keeps O S w w2 → ∃ es, stepG P true a w2 = .go a1 w2 es ∧ ∀ e ∈ es, EvW O S e) (k : MB P S Fin E R O a1 w) : MB P S Fin E R O a w :=
  .go1 hr fun w2 k2 => by
    obtain ⟨es, h1, h2⟩ := h w2 k2
    exact ⟨a1, w2, es, h1, hr1, .refl _ _, by rw [own_same rfl]; exact h2, by rw [own_same rfl]; exact k.keeps k2⟩
/-- A step that does not look at memory. -/
theorem KT.ctl (hr : g.status = .running) (h : ∀ w, stepG P false g w = .go g1 w #[]) (k : KT P S c outs O g1 w) : KT P S c outs O g w := .look hr (fun w2 _ => ⟨#[], h w2, by simp⟩) k
theorem MB.ctl (hr : a.status = .running) (hr1 : a1.status = .running) (h : ∀ w, stepG P true a w = .go a1 w #[]) (k : MB P S Fin E R O a1 w) : MB P S Fin E R O a w := .look hr hr1 (fun w2 _ => ⟨#[], h w2, by simp⟩) k
/-- A call that runs in company. -/
theorem KT.of_runs {base : List Frame} {FinR : (Nat → Prop) → Frame → World → Prop} {fr : Frame} {cs : List Frame} (h : Runs P S base FinR O fr cs w) (hf : ∀ O fr w, fr.mode = .returning → (∀ w2, Keeps O S w w2 → FinR O fr w2) → KT P S c outs O (G fr base) w) : KT P S c outs O (G fr cs) w := by
  induction h with
  | done hm hfin => exact hf _ _ _ hm hfin
  | step h1 _ ih =>
    refine .go1 rfl fun w2 k => ?_
    obtain ⟨fr1, cs1, w1, es, k1, k2, k3, k4⟩ := h1 w2 k
    exact ⟨_, w1, es, k2 false .running none, k3, fun e he => (k4 e he).toW, ih w2 fr1 cs1 w1 es k k1⟩
/-- The return of such a call: the value is the same, whatever the others do meanwhile. -/
theorem fin_ret2 {L : Nat} {FS : FuncId → Prop} {Sh : Nat → Prop} (HB : BodiesOK L FS P) {f : FuncId} (hf : FS f) {Q : Value → World → Prop} {fr' : Frame} (h : ∀ w2, Keeps O S w w2 → FinV L FS Sh P S (PostV P f Q) O fr' w2) (hm : fr'.mode = .returning) :
    ∃ v', (∀ w2, Keeps O S w w2 → ∃ B v wl, Has Sh B O S ∧ WR L FS Sh B wl w2 ∧ VR L FS B v v' ∧ Q v wl) ∧ ∀ w2 main c rest, stepG P main (G fr' (c :: rest)) w2 = .go (G (c.finish v') rest) w2 #[] := by
  obtain ⟨fn, hfn⟩ := HB.there f hf
  obtain ⟨ts, hts⟩ := tmps_of fn.results.toList (HB.res f hf fn hfn)
  refine ⟨resOf (ts.map fun t => fr'.tmps.getD t undef), fun w2 k => ?_, fun w2 main c rest => ?_⟩
  · obtain ⟨B, fr, wl, h1, h2, h3, h4, fn', v, h5, h6, h7⟩ := h w2 k
    rw [hfn] at h5
    injection h5 with h5
    subst h5
    have e := results_tmps hts fr.tmps
    have hv : v = resOf (ts.map fun t => fr.tmps.getD t undef) := by
      rw [e] at h6
      simp only [pure, Sem.run] at h6
      injection h6 with h6 _
      exact h6.symm
    subst hv
    exact ⟨B, _, wl, h1, h3, resOf_rel h2.tmps ts, h7⟩
  · obtain ⟨B, fr, wl, h1, h2, h3, h4, _⟩ := h w (Keeps.refl _ _ _)
    have e' := results_tmps hts fr'.tmps
    refine step_ret hm ?_ ?_ (by rw [h2.fn, h4]; exact hfn) (by rw [e']; rfl)
    · rw [h2.eq]; exact h2.ft.defers
    · rw [h2.eq]; exact h2.ft.kind
theorem Keeps.cell {ad : Addr} (h : Keeps O S w w2) (hb : O ad.block ∨ S ad.block) : w2.cell? ad = w.cell? ad := by
  unfold World.cell?
  rw [h.block ad.block hb]
end
end Go.Proofs.Ytgeoffpcmkofkaa
