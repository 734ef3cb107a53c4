/- The machine takes these steps: those that were started. -/
import Derived.Test.YtgeoffpcmkofkaaLa
namespace Go.Proofs.Ytgeoffpcmkofkaa
open Go Go.Conc
open Go.ConcN (sumTo upd sumTo_upd upd_ne upd_same)

section
variable {P : Program} {S : Nat → Prop} {n0 : Nat} {E E' : Nat → Option (List Value)} {R R' : Option Nat} {O O' : Nat → Prop} {a a' : Goroutine} {w0 w0' : World} {kids : List Kid} {q q' : Nat → Nat} {gs gs' : Array Goroutine} {w w1 : World} {t u : Trace} {Own Own' : Nat → Nat → Prop} {W W' : Nat → World} {b b' : Bool}
theorem CI.gsK (h : CI P S n0 E R O a w0 kids q gs w t Own W b) {j : Nat} {x : Kid} (hx : kids[j]? = some x) : n0 + j < gs.size := by
  rw [h.size]; have := (List.getElem?_eq_some_iff.1 hx).1; omega
/-- It closes its channel. -/
theorem CI.kidShut (h : CI P S n0 E R O a w0 kids q gs w t Own W b) {j : Nat} {x : Kid} (hx : kids[j]? = some x) (hm : x.m = 2) (ho : x.outs = []) {g1 : Goroutine} {n : Nat} (hq1 : QuitsIn P n g1) (s r : Nat) (tm : Bool) (fn : FuncId) (pos : String) {g : Goroutine} (hwake : mayWake P g = true) :
    ∃ b', CI P S n0 E R O a w0 (kids.set j { x with m := 0 }) (put q (n0 + j) n) ((gs.map (Conc.woken P g g1 { w with heap := w.heap.setIfInBounds x.c (.chan 0 #[] true s r tm) })).setIfInBounds (n0 + j) g1) { w with heap := w.heap.setIfInBounds x.c (.chan 0 #[] true s r tm) }
      (t ++ MemOp.ofEvents (n0 + j) fn pos #[⟨.obj x.c, false, true⟩, ⟨.obj x.c, true, true⟩]) Own W b' := by
  have hpos := h.pos
  have hL := h.liveK hx
  have hj := (List.getElem?_eq_some_iff.1 hx).1
  have hlt := h.gsK hx
  have hch : Chs kids x.c := ⟨j, x, hx, rfl⟩
  generalize hw1 : ({ w with heap := w.heap.setIfInBounds x.c (.chan 0 #[] true s r tm) } : World) = w1
  have hh1 : w1.heap = w.heap.setIfInBounds x.c (.chan 0 #[] true s r tm) := by rw [← hw1]
  have hclt := h.lowC hx
  have hsame : ∀ r', r' ≠ x.c → w1.heap[r']? = w.heap[r']? := fun r' hr => by rw [hh1, Array.getElem?_setIfInBounds_ne (Ne.symm hr)]
  have hshut : ShutC w1 x.c := ⟨s, r, tm, by rw [hh1]; simp [hclt]⟩
  have hother : ∀ (i : Nat) (z : Kid), kids[i]? = some z → i ≠ j → z.c ≠ x.c := fun i z hz hne e => hne (h.ch i j z x hz hx e)
  -- the others
  have hset : ∀ i, i ≠ 0 → i ≠ n0 + j → ((gs.map (Conc.woken P g g1 w1)).setIfInBounds (n0 + j) g1)[i]? = gs[i]? := by
    intro i hi0 hi
    rw [Array.getElem?_setIfInBounds_ne (Ne.symm hi), Array.getElem?_map]
    cases hz : gs[i]? with
    | none => rfl
    | some z =>
      rw [Option.map_some]
      congr 1
      have hilt : i < gs.size := (Array.getElem?_eq_some_iff.1 hz).1
      by_cases hn : i < n0
      · exact woken_quitsD (h.old i z (by omega) hn hz)
      · obtain ⟨k, rfl⟩ : ∃ k, i = n0 + k := ⟨i - n0, by omega⟩
        have hk' : k < kids.length := by rw [h.size] at hilt; omega
        have hgk := List.getElem?_eq_getElem hk'
        have hk := h.kid k kids[k] hgk
        cases hk with
        | live k1 k2 k3 k4 k5 => rw [k2] at hz; injection hz with hz; subst hz; exact woken_run k3.running
        | sits v zz outs k1 k2 k3 k4 k5 k6 =>
          rw [k2] at hz; injection hz with hz; subst hz
          obtain ⟨s', r', tm', kk⟩ := k5
          exact woken_send_open (cap := 0) (buf := #[]) (s := s') (r := r') (tm := tm') _ _ (by rw [hsame _ (hother k _ hgk (by omega))]; exact kk)
        | gone g k1 k2 k3 k4 => rw [k2] at hz; injection hz with hz; subst hz; exact woken_quits k3
  have hu : MemOp.ofEvents (n0 + j) fn pos #[⟨.obj x.c, false, true⟩, ⟨.obj x.c, true, true⟩] = #[{ g := n0 + j, fn, pos, act := .access ⟨.obj x.c, false, true⟩ }] ++ #[{ g := n0 + j, fn, pos, act := .close x.c }] := by simp [MemOp.ofEvents, MemAct.ofEvent]
  rw [hu]
  have hreg0 := h.reg.chan (w1 := w1) hch hh1 (by rw [← hw1]) (by rw [← hw1])
  have hclt1 : x.c < w1.heap.size := by rw [hh1]; simpa using hclt
  have hreg : Reg (LiveG n0 gs.size) Own S (Chs kids) W w1 (t ++ (#[{ g := n0 + j, fn, pos, act := .access ⟨.obj x.c, false, true⟩ }] ++ #[{ g := n0 + j, fn, pos, act := .close x.c }])) := by
    refine ⟨hreg0.lie, hreg0.low, hreg0.sLow, hreg0.cLow, hreg0.keeps, TB.app hreg0.lie hreg0.tb hL fun op hop => ?_⟩
    have : op = { g := n0 + j, fn, pos, act := .access ⟨.obj x.c, false, true⟩ } ∨ op = { g := n0 + j, fn, pos, act := .close x.c } := by simpa using hop
    rcases this with rfl | rfl
    · refine ⟨rfl, fun y hy _ => ?_, hclt1, by simp, by simp⟩
      simp only [MemAct.touch?, Option.some.injEq] at hy
      subst hy
      exact ⟨x.c, rfl, .inr (.inr ⟨hch, rfl⟩)⟩
    · exact ⟨rfl, fun y hy _ => by simp [MemAct.touch?] at hy, hclt1, by simp, by simp⟩
  have hdeaf : Deaf (t ++ #[({ g := n0 + j, fn, pos, act := .access ⟨.obj x.c, false, true⟩ } : MemOp)]) (n0 + j) = 0 := by
    rw [deaf_same (by simp)]
    exact h.reg.tb.hears _ hL
  have hsat : ShutAt (n0 + j) x.c (t ++ (#[{ g := n0 + j, fn, pos, act := .access ⟨.obj x.c, false, true⟩ }] ++ #[{ g := n0 + j, fn, pos, act := .close x.c }])) (t.size + 1) := by
    have := ShutAt.new (k := n0 + j) (c := x.c) (y := { g := n0 + j, fn, pos, act := .close x.c }) ⟨rfl, rfl⟩ hdeaf
    rw [← Array.append_assoc]
    simpa using this
  -- the main one
  have hmain : ∃ b', (b' = true ∧ ∃ off, ((gs.map (Conc.woken P g g1 w1)).setIfInBounds (n0 + j) g1)[0]? = some { a with status := .running, offers := off }) ∨ (b' = false ∧ ∃ c z, ((gs.map (Conc.woken P g g1 w1)).setIfInBounds (n0 + j) g1)[0]? = some (parked a #[rcase c z] (.recv true)) ∧ RecvAt P S O a w0 c z ∧ ∃ (i : Nat) (k : Kid), (kids.set j { x with m := 0 })[i]? = some k ∧ k.c = c ∧ k.m = 2) := by
    have e0 : ((gs.map (Conc.woken P g g1 w1)).setIfInBounds (n0 + j) g1)[0]? = (gs[0]?).map (Conc.woken P g g1 w1) := by
      rw [Array.getElem?_setIfInBounds_ne (by omega), Array.getElem?_map]
    rw [e0]
    rcases h.main with ⟨_, off, hm0⟩ | ⟨_, c, z, hm0, hr, i, k, k4, k5, k6⟩
    · exact ⟨true, .inl ⟨rfl, off, by rw [hm0, Option.map_some, woken_run rfl]⟩⟩
    · by_cases e : c = x.c
      · subst e
        unfold Conc.woken
        split
        · refine ⟨true, .inl ⟨rfl, some (#[rcase x.c z], .recv true), ?_⟩⟩
          rw [hm0, Option.map_some]
          congr 1
          exact again_recv_closed (cap := 0) (buf := #[]) (s := s) (r := r) (tm := tm) (by rw [hh1]; simp [hclt])
        · rename_i hno
          refine absurd ?_ hno
          rcases hq1.status with e1 | e1 <;> simp [hwake, e1]
      · refine ⟨false, .inr ⟨rfl, c, z, ?_, hr, i, k, ?_, k5, k6⟩⟩
        · rw [hm0, Option.map_some]
          congr 1
          have hk := (h.kid i k k4).openC (by omega)
          obtain ⟨s', r', tm', hk⟩ := hk
          exact woken_recv_open (cap := 0) (buf := #[]) (s := s') (r := r') (tm := tm') _ _ (by rw [hsame c e, ← k5]; exact hk)
        · have : j ≠ i := by
            rintro rfl
            rw [hx] at k4
            injection k4 with k4
            subst k4
            exact e k5.symm
          rw [List.getElem?_set_ne this]
          exact k4
  obtain ⟨b', hmain⟩ := hmain
  refine ⟨b', h.to hx rfl (by simp) hset (fun i z hz hne => hsame _ (hother i z hz hne)) (fun op hop => ?_) (fun i hi => put_ne _ _ hi) (fun _ _ _ _ => rfl) h.exp hmain h.own0 h.w0 ?_ ⟨(h.kown j x hx).1, fun hm0 => absurd hm0 (by simp)⟩ (fun _ _ _ => ⟨rfl, rfl⟩) (fun c hr => ?_) hreg⟩
  · have : op = { g := n0 + j, fn, pos, act := .access ⟨.obj x.c, false, true⟩ } ∨ op = { g := n0 + j, fn, pos, act := .close x.c } := by simpa using hop
    rcases this with rfl | rfl <;> exact ⟨.inr rfl, by simp, by simp⟩
  · refine .gone g1 rfl (set_at _ _ _ hlt) (by rw [put_same]; exact hq1) (.inl ⟨?_, hshut, _, hsat⟩)
    have := (h.kid j x hx).exp (by omega)
    rw [ho] at this
    exact this
  · obtain ⟨⟨tm', h1⟩, h2, h3, h4⟩ := h.res c hr
    refine ⟨⟨tm', ?_⟩, h2, h3, h4⟩
    rw [hsame c fun e => h4 (e ▸ hch)]
    exact h1

/-- One that is only leaving takes a step. -/
theorem CI.slipOld (h : CI P S n0 E R O a w0 kids q gs w t Own W b) {i k : Nat} {g g' : Goroutine} (h0 : 0 < i) (hn : i < n0) {es : Array Event} (hmute : ∀ e ∈ es, Event.mute e = true) (hq : QuitsD P k (deafBehind (Deaf t i) es) g') (fn : FuncId) (pos : String) :
    CI P S n0 E R O a w0 kids (put q i k) ((gs.map (Conc.woken P g g' w)).setIfInBounds i g') w (t ++ MemOp.ofEvents i fn pos es) Own W b := by
  have hpos := h.pos
  have hall := h.woken (w1 := w) (fun j x hx hm => (h.kid j x hx).openC hm) g g'
  have hset := set_get gs (Conc.woken P g g' w) i g' fun k x _ hx => hall k x hx
  have hu : ∀ op ∈ MemOp.ofEvents i fn pos es, op.g = i ∧ op.act.touch? = none ∧ op.act.low w.heap.size := by
    intro op hop
    obtain ⟨e, he, rfl⟩ := Conc.mem_ofEvents hop
    exact ⟨rfl, touch_mute (hmute e he), low_mute (hmute e he) _⟩
  have hd : ∀ k, k ≠ i → Deaf (t ++ MemOp.ofEvents i fn pos es) k = Deaf t k := fun k hk => Deaf_other t (Ne.symm hk) _ fun op hop => (hu op hop).1
  have hilt : i < gs.size := by rw [h.size]; omega
  refine ⟨h.pos, by simp [h.size], fun k x h1 h2 hx => ?_, fun k hk => ?_, ?_, h.own0, h.w0, fun k x hx => ?_, h.kown, h.ch, by simpa using h.res, h.exp, ?_⟩
  · by_cases e : k = i
    · subst e
      rw [set_at _ _ _ hilt] at hx
      injection hx with hx
      subst hx
      rw [put_same, Deaf_own]
      exact hq
    · rw [hset k e] at hx
      rw [put_ne _ _ e, hd k e]
      exact h.old k x h1 h2 hx
  · rw [hd k (by simp at hk; omega)]
    exact h.above k (by simpa using hk)
  · rw [hset 0 (by omega)]
    exact h.main
  · refine (h.kid k x hx).keep (hset _ (by omega)) rfl rfl (put_ne _ _ (by omega)) fun op hop hg => ?_
    exact (hu op hop).2.1
  · have : ¬LiveG n0 gs.size i := by
      rintro (e | e) <;> omega
    simpa using h.reg.mute this hu
theorem CI.slipGone (h : CI P S n0 E R O a w0 kids q gs w t Own W b) {j k : Nat} {x : Kid} {g g' : Goroutine} (hx : kids[j]? = some x) (hm : x.m = 0) (hq : QuitsIn P k g') (fn : FuncId) (pos : String) :
    CI P S n0 E R O a w0 kids (put q (n0 + j) k) ((gs.map (Conc.woken P g g' w)).setIfInBounds (n0 + j) g') w (t ++ MemOp.ofEvents (n0 + j) fn pos #[]) Own W b := by
  have hpos := h.pos
  have hall := h.woken (w1 := w) (fun j x hx hm => (h.kid j x hx).openC hm) g g'
  have hset := set_get gs (Conc.woken P g g' w) (n0 + j) g' fun k x _ hx => hall k x hx
  have hj := (List.getElem?_eq_some_iff.1 hx).1
  have hs : kids.set j x = kids := by
    have : kids[j] = x := (List.getElem?_eq_some_iff.1 hx).2
    rw [← this, List.set_getElem_self]
  have hki := h.kid j x hx
  have := h.to (u := #[]) (E' := E) (R' := R) (O' := O) (a' := a) (w0' := w0) (q' := put q (n0 + j) k) (gs' := (gs.map (Conc.woken P g g' w)).setIfInBounds (n0 + j) g') (w1 := w) (Own' := Own) (W' := W) (b' := b) hx (y := x) rfl (by simp) (fun i _ hi => hset i hi) (fun _ _ _ _ => rfl) (by simp) (fun i hi => put_ne _ _ hi) (fun _ _ _ _ => rfl) h.exp ?_ h.own0 h.w0 ?_ (h.kown j x hx) (fun _ _ _ => ⟨rfl, rfl⟩) h.res (by simpa using h.reg)
  · rw [ofE_nil]
    rw [hs] at this
    exact this
  · rw [hset 0 (by omega), hs]
    exact h.main
  · cases hki with
    | live k1 => omega
    | sits _ _ _ k1 => omega
    | gone g0 k1 k2 k3 k4 => exact .gone g' hm (set_at _ _ _ (h.gsK hx)) (by rw [put_same]; exact hq) (by simpa using k4)
/-- The two meet. -/
theorem CI.meet (h : CI P S n0 E R O a w0 kids q gs w t Own W b) {j : Nat} {x : Kid} (hx : kids[j]? = some x) (hm : 1 ≤ x.m) {v : Value} {outs : List Value} (hk : KT P S x.c outs x.own (Conc.served x.g undef) x.w) {s r : Nat} {tm : Bool} (hw : w1.heap = w.heap.setIfInBounds x.c (.chan 0 #[] false s r tm)) (ho : w1.os = w.os) (hu2 : w1.output = w.output)
    (hsz : gs'.size = gs.size) (h0 : gs'[0]? = some (Conc.served a v)) (hj : gs'[n0 + j]? = some (Conc.served x.g undef)) (hgs : ∀ i, i ≠ 0 → i ≠ n0 + j → gs'[i]? = gs[i]?) (hu : ∀ op ∈ u, (op.g = 0 ∨ op.g = n0 + j) ∧ Still w.heap.size op) :
    CI P S n0 (put E x.c (some outs)) R O (Conc.served a v) w0 (kids.set j { x with outs := outs, g := Conc.served x.g undef, m := 2 }) q gs' w1 (t ++ u) Own W true := by
  have hch : Chs kids x.c := ⟨j, x, hx, rfl⟩
  have hclt := h.lowC hx
  have hsame : ∀ r', r' ≠ x.c → w1.heap[r']? = w.heap[r']? := fun r' hr => by rw [hw, Array.getElem?_setIfInBounds_ne (Ne.symm hr)]
  have hother : ∀ (i : Nat) (z : Kid), kids[i]? = some z → i ≠ j → z.c ≠ x.c := fun i z hz hne e => hne (h.ch i j z x hz hx e)
  have hsz1 : w1.heap.size = w.heap.size := by rw [hw]; simp
  refine h.to hx rfl hsz hgs (fun i z hz hne => hsame _ (hother i z hz hne)) (fun op hop => ⟨(hu op hop).1, (hu op hop).2.dis, (hu op hop).2.ena⟩) (fun _ _ => rfl) (fun i z hz hne => put_ne _ _ (hother i z hz hne)) (fun c o hc => ?_) (.inl ⟨rfl, none, h0⟩) h.own0 h.w0 ?_ ⟨(h.kown j x hx).1, fun _ => (h.kown j x hx).2 hm⟩ (fun _ _ _ => ⟨rfl, rfl⟩) (fun c hr => ?_) ?_
  · by_cases e : c = x.c
    · rw [e]; exact hch
    · rw [put_ne _ _ e] at hc; exact h.exp c o hc
  · exact .live rfl hj hk ⟨s, r, tm, by rw [hw]; simp [hclt]⟩ (put_same _ _ _)
  · obtain ⟨⟨tm', h1⟩, h2, h3, h4⟩ := h.res c hr
    refine ⟨⟨tm', ?_⟩, h2, h3, h4⟩
    rw [hsame c fun e => h4 (e ▸ hch)]
    exact h1
  · exact (h.reg.chan hch hw ho hu2).still fun op hop => by rw [hsz1]; exact (hu op hop).2
/-- The main one finds a channel closed. -/
theorem CI.last (h : CI P S n0 E R O a w0 kids q gs w t Own W b) {j : Nat} {x : Kid} (hx : kids[j]? = some x) (hE : E x.c = some []) (hm : x.m = 0) {v : Value} (hsz : gs'.size = gs.size) (h0 : gs'[0]? = some (Conc.served a v)) (hgs : ∀ i, i ≠ 0 → gs'[i]? = gs[i]?) {y : MemOp} (hy : y.g = 0 ∧ y.act = .recvClosed x.c) :
    CI P S n0 (put E x.c none) R O (Conc.served a v) w0 kids q gs' w (t ++ #[y]) Own W true := by
  have hpos := h.pos
  have hch : Chs kids x.c := ⟨j, x, hx, rfl⟩
  have hj := (List.getElem?_eq_some_iff.1 hx).1
  have hs : kids.set j x = kids := by
    have : kids[j] = x := (List.getElem?_eq_some_iff.1 hx).2
    rw [← this, List.set_getElem_self]
  have hother : ∀ (i : Nat) (z : Kid), kids[i]? = some z → i ≠ j → z.c ≠ x.c := fun i z hz hne e => hne (h.ch i j z x hz hx e)
  have hst : Still w.heap.size y := ⟨by rw [hy.2]; rfl, by rw [hy.2]; exact h.lowC hx, by rw [hy.2]; simp, by rw [hy.2]; simp⟩
  have one : ∀ (op : MemOp), op ∈ #[y] → ∀ {p : MemOp → Prop}, p y → p op := fun op hop p hp => by
    have : op = y := by simpa using hop
    rw [this]; exact hp
  have hki := h.kid j x hx
  have := h.to (u := #[y]) (E' := put E x.c none) (R' := R) (O' := O) (a' := Conc.served a v) (w0' := w0) (q' := q) (gs' := gs') (w1 := w) (Own' := Own) (W' := W) (b' := true) hx (y := x) rfl hsz (fun i hi _ => hgs i hi) (fun _ _ _ _ => rfl) (fun op hop => one op hop (p := fun op => (op.g = 0 ∨ op.g = n0 + j) ∧ op.act ≠ .mark .disable ∧ op.act ≠ .mark .enable) ⟨.inl hy.1, hst.dis, hst.ena⟩) (fun _ _ => rfl) (fun i z hz hne => put_ne _ _ (hother i z hz hne)) (fun c o hc => ?_) (.inl ⟨rfl, none, h0⟩) h.own0 h.w0 ?_ (h.kown j x hx) (fun _ _ _ => ⟨rfl, rfl⟩) h.res (h.reg.still fun op hop => one op hop hst)
  · rw [hs] at this
    exact this
  · by_cases e : c = x.c
    · rw [e]; exact hch
    · rw [put_ne _ _ e] at hc; exact h.exp c o hc
  · cases hki with
    | live k1 => omega
    | sits _ _ _ k1 => omega
    | gone g0 k1 k2 k3 k4 =>
      refine .gone g0 hm (by rw [hgs _ (by omega)]; exact k2) k3 (.inr ⟨put_same _ _ _, ?_⟩)
      rcases k4 with ⟨_, _, pc, k4⟩ | ⟨k4, _⟩
      · exact k4.known hy (h.reg.tb.hears 0 (.inl rfl))
      · rw [hE] at k4; cases k4
end
end Go.Proofs.Ytgeoffpcmkofkaa
