/- Ld; Le; Ma: texts laid into one. -/
import Derived.Test.YtgeoffpcmkofkaaQan
/- The machine with one that starts others and receives from them comes to the end, whatever the tape: the whole. -/
namespace Go.Proofs.Ytgeoffpcmkofkaa
open Go Go.Conc

section
variable {P : Program} {S : Nat → Prop} {n0 : Nat} {E : Nat → Option (List Value)} {R : Option Nat} {O : Nat → Prop} {a : Goroutine} {w0 : World} {Post : Value → World → Prop} {Fin : Goroutine → World → Prop}
theorem recvAt_eq {c c' : Nat} {z z' : Value} (h : RecvAt P S O a w0 c z) (h' : RecvAt P S O a w0 c' z') : c' = c ∧ z' = z := by
  have e := h w0 (Keeps.refl _ _ _)
  rw [h' w0 (Keeps.refl _ _ _)] at e
  injection e with _ e
  simp only [rcase, Array.mk.injEq, List.cons.injEq, CommCase.mk.injEq, Value.chan.injEq, Option.some.injEq] at e
  exact ⟨e.1.1, e.1.2.2⟩
theorem run_eta {a1 : Goroutine} (h : a1.status = .running) : some a1 = some { a1 with status := .running, offers := a1.offers } := by
  obtain ⟨f, c, s, d, o⟩ := a1
  simp only at h
  subst h
  rfl
section
variable {kids : List Kid} {q : Nat → Nat} {gs : Array Goroutine} {w w1 : World} {t : Trace} {Own : Nat → Nat → Prop} {W : Nat → World} {b : Bool}
/-- One more is started. -/
theorem CI.spawn {c : Nat} (h : CI P S n0 E (some c) O a w0 kids q gs w t Own W b) {a1 child : Goroutine} {outs : List Value} (h1 : a1.status = .running) (hk : KT P S c outs (fun _ => False) child w) {x y : MemOp} (hx : x.g = 0 ∧ x.act = .go gs.size) (hy : y.g = gs.size ∧ y.act = .start) :
    CI P S n0 (put E c (some outs)) none O a1 w0 (kids ++ [⟨c, outs, fun _ => False, child, w, 2⟩]) q ((gs.setIfInBounds 0 a1).push child) w (t ++ #[x, y]) (put Own gs.size fun _ => False) (put W gs.size w) true := by
  have hpos := h.pos
  have hsz := h.size
  obtain ⟨⟨tm, c1⟩, c2, c3, c4⟩ := h.res c rfl
  have hclt : c < w.heap.size := (Array.getElem?_eq_some_iff.1 c1).1
  have h0lt : 0 < gs.size := by omega
  have hss : ((gs.setIfInBounds 0 a1).push child).size = gs.size + 1 := by simp
  have hget : ∀ i, i ≠ 0 → i < gs.size → ((gs.setIfInBounds 0 a1).push child)[i]? = gs[i]? := fun i hi hlt => by
    rw [Array.getElem?_push_lt (by simpa using hlt)]
    simp [hlt, Ne.symm hi]
  have hnew : ((gs.setIfInBounds 0 a1).push child)[gs.size]? = some child := by
    have : gs.size = (gs.setIfInBounds 0 a1).size := by simp
    rw [this]
    exact Array.getElem?_push_size
  have hchs : ∀ d, Chs (kids ++ [⟨c, outs, fun _ => False, child, w, 2⟩]) d ↔ Chs kids d ∨ d = c := by
    intro d
    refine ⟨fun ⟨j, z, hz, hd⟩ => ?_, fun hd => ?_⟩
    · rcases Nat.lt_or_ge j kids.length with hj | hj
      · rw [List.getElem?_append_left hj] at hz
        exact .inl ⟨j, z, hz, hd⟩
      · rw [List.getElem?_append_right hj] at hz
        have : j - kids.length = 0 := by
          rcases Nat.eq_zero_or_pos (j - kids.length) with e | e
          · exact e
          · rw [List.getElem?_eq_none (by simp; omega)] at hz; cases hz
        rw [this] at hz
        simp only [List.getElem?_cons_zero, Option.some.injEq] at hz
        subst hz
        exact .inr hd.symm
    · rcases hd with ⟨j, z, hz, hd⟩ | rfl
      · exact ⟨j, z, by rw [List.getElem?_append_left (List.getElem?_eq_some_iff.1 hz).1]; exact hz, hd⟩
      · exact ⟨kids.length, ⟨d, outs, fun _ => False, child, w, 2⟩, by rw [List.getElem?_append_right (Nat.le_refl _)]; simp, rfl⟩
  have kcases : ∀ (j : Nat) (z : Kid), (kids ++ [⟨c, outs, fun _ => False, child, w, 2⟩])[j]? = some z → kids[j]? = some z ∨ (j = kids.length ∧ z = ⟨c, outs, fun _ => False, child, w, 2⟩) := by
    intro j z hz
    rcases Nat.lt_or_ge j kids.length with hj | hj
    · rw [List.getElem?_append_left hj] at hz
      exact .inl hz
    · rw [List.getElem?_append_right hj] at hz
      have : j - kids.length = 0 := by
        rcases Nat.eq_zero_or_pos (j - kids.length) with e | e
        · exact e
        · rw [List.getElem?_eq_none (by simp; omega)] at hz; cases hz
      rw [this] at hz
      simp only [List.getElem?_cons_zero, Option.some.injEq] at hz
      exact .inr ⟨by omega, hz.symm⟩
  have hdeaf : ∀ g, Deaf (t ++ #[x, y]) g = Deaf t g := fun g => deaf_same fun op hop => by
    have : op = x ∨ op = y := by simpa using hop
    rcases this with rfl | rfl
    · rw [hx.2]; simp
    · rw [hy.2]; simp
  have hreg := h.reg.fork (Live' := LiveG n0 (gs.size + 1)) (Ch' := Chs (kids ++ [⟨c, outs, fun _ => False, child, w, 2⟩])) (.inl rfl) (k := gs.size) (by rintro (e | e) <;> omega) (h.above _ (Nat.le_refl _)) hx hy (fun g => by unfold LiveG; omega) hchs hclt c3 c2
  refine ⟨hpos, by simp [hsz]; omega, fun i g k1 k2 hg => ?_, fun j hj => ?_, .inl ⟨rfl, a1.offers, ?_⟩, by rw [put_ne _ _ (by omega)]; exact h.own0, by rw [put_ne _ _ (by omega)]; exact h.w0, fun j z hz => ?_, fun j z hz => ?_, fun i j z z' hz hz' he => ?_, (fun c hc => by cases hc), fun d o hd => ?_, by rw [hss]; exact hreg⟩
  · rw [hdeaf]
    exact h.old i g k1 k2 (by rw [← hget i (by omega) (by omega)]; exact hg)
  · rw [hdeaf]; exact h.above j (by simp at hj; omega)
  · rw [← run_eta h1, Array.getElem?_push_lt (by simpa using h0lt)]
    simp
  · rcases kcases j z hz with hz | ⟨rfl, rfl⟩
    · have hj := (List.getElem?_eq_some_iff.1 hz).1
      have hne : z.c ≠ c := fun e => c4 ⟨j, z, hz, e⟩
      refine (h.kid j z hz).keep (hget _ (by omega) (by omega)) rfl (put_ne _ _ hne) rfl fun op hop hg => ?_
      have : op = x ∨ op = y := by simpa using hop
      rcases this with rfl | rfl
      · omega
      · omega
    · exact .live rfl (by rw [← hsz]; exact hnew) hk ⟨0, 0, tm, c1⟩ (put_same _ _ _)
  · rcases kcases j z hz with hz | ⟨rfl, rfl⟩
    · have hj := (List.getElem?_eq_some_iff.1 hz).1
      rw [put_ne _ _ (by omega), put_ne _ _ (by omega)]
      exact h.kown j z hz
    · rw [← hsz, put_same, put_same]
      exact ⟨rfl, fun _ => rfl⟩
  · rcases kcases i z hz with hz | ⟨rfl, rfl⟩ <;> rcases kcases j z' hz' with hz' | ⟨rfl, rfl⟩
    · exact h.ch i j z z' hz hz' he
    · exact absurd ⟨i, z, hz, he⟩ c4
    · exact absurd ⟨j, z', hz', he.symm⟩ c4
    · rfl
  · rw [hchs]
    by_cases e : d = c
    · exact .inr e
    · rw [put_ne _ _ e] at hd
      exact .inl (h.exp d o hd)
end
theorem crowd_fine
    (fin : ∀ (a : Goroutine) (gs : Array Goroutine) (w : World) (sl : Option (Nat × Nat)) (t : Trace) (q : Nat → Nat) (off : Option (Array CommCase × CommShape)), Fin a w → gs[0]? = some { a with status := .running, offers := off } → Leavers P t gs q → Past (fun _ => False) w.heap.size t → Fine P Post (crowd gs w sl) t)
    (h : MB P S Fin E R O a w0) : ∀ (kids : List Kid) (q : Nat → Nat) (gs : Array Goroutine) (w : World) (sl : Option (Nat × Nat)) (t : Trace) (Own : Nat → Nat → Prop) (W : Nat → World) (b : Bool), CI P S n0 E R O a w0 kids q gs w t Own W b → Fine P Post (crowd gs w sl) t := by
  induction h with
  | @own E R O a w0 hr h1 h2 ih =>
    intro kids q gs w sl t Own W b hI
    refine inner (fun kids q gs w sl t Own W hI => .inl ?_) (fun c z v outs hrec => ?_) kids hI.acc _ b q gs w sl t Own W rfl hI
    · obtain ⟨a1, w1, es, hs, ha1, hd, he⟩ := h1 w hI.keep0
      obtain ⟨off, hm⟩ : ∃ off, gs[0]? = some { a with status := .running, offers := off } := by
        rcases hI.main with ⟨_, k⟩ | ⟨k, _⟩
        · exact k
        · cases k
      have hlt : 0 < gs.size := (Array.getElem?_eq_some_iff.1 hm).1
      have hrunT := runT_crowd_go (P := P) (sl := sl) (i := 0) (g' := a1) (w' := w1) (es := es) hm hs
      refine ⟨_, _, hrunT, ih w a1 w1 es hI.keep0 hs kids q _ w1 sl _ (put Own 0 (own O w w1)) (put W 0 w1) true ?_⟩
      have hdL : DidO (Own 0) w w1 := by rw [hI.own0]; exact hd
      have hch := hI.chan_did (.inl rfl) hdL
      have hres := hI.res_did (.inl rfl) hdL
      have hreg := hI.reg.step (.inl rfl) hdL (es := es) (by rw [hI.own0]; exact he) a.frame.fn a.frame.place
      rw [hI.own0] at hres hreg
      have hall := hI.woken (w1 := w1) (fun i z hz hm => ((hI.kid i z hz).openC hm).of (hch i z hz)) { a with status := .running, offers := off } a1
      refine hI.mainTo (by simp) (set_get _ _ _ _ fun i x _ hx => hall i x hx) hch (calm_of he) (.inl ⟨rfl, a1.offers, ?_⟩) (put_same _ _ _) (put_same _ _ _) (fun i hi => ⟨put_ne _ _ hi, put_ne _ _ hi⟩) hres hreg
      rw [← run_eta ha1]
      exact set_at _ _ _ hlt
    · obtain ⟨a1, w1, es, hs, _⟩ := h1 w0 (Keeps.refl _ _ _)
      have := hrec w0 (Keeps.refl _ _ _)
      rw [hs] at this
      cases this
  | @make E O a w0 tm hr h1 h2 ih =>
    intro kids q gs w sl t Own W b hI
    refine inner (fun kids q gs w sl t Own W hI => .inl ?_) (fun c z v outs hrec => ?_) kids hI.acc _ b q gs w sl t Own W rfl hI
    · obtain ⟨a1, hs, ha1⟩ := h1 w hI.keep0
      obtain ⟨off, hm⟩ : ∃ off, gs[0]? = some { a with status := .running, offers := off } := by
        rcases hI.main with ⟨_, k⟩ | ⟨k, _⟩
        · exact k
        · cases k
      have hlt : 0 < gs.size := (Array.getElem?_eq_some_iff.1 hm).1
      have hrunT := runT_crowd_go (P := P) (sl := sl) (i := 0) (g' := a1) (es := #[]) hm hs
      have hih := ih w a1 _ #[] hI.keep0 hs
      generalize hw1 : ({ w with heap := w.heap.push (.chan 0 #[] false 0 0 tm) } : World) = w1 at hrunT hih
      have hh1 : w1.heap = w.heap.push (.chan 0 #[] false 0 0 tm) := by rw [← hw1]
      refine ⟨_, _, hrunT, hih kids q _ w1 sl _ Own (put W 0 w1) true ?_⟩
      have hch : ∀ (i : Nat) (z : Kid), kids[i]? = some z → w1.heap[z.c]? = w.heap[z.c]? := fun i z hz => by
        have := hI.lowC hz
        rw [hh1, Array.getElem?_push_lt this]
        simp [this]
      have hall := hI.woken (w1 := w1) (fun i z hz hm => ((hI.kid i z hz).openC hm).of (hch i z hz)) { a with status := .running, offers := off } a1
      rw [ofE_nil]
      refine hI.mainTo (by simp) (set_get _ _ _ _ fun i x _ hx => hall i x hx) hch (by simp) (.inl ⟨rfl, a1.offers, ?_⟩) hI.own0 (put_same _ _ _) (fun i hi => ⟨rfl, put_ne _ _ hi⟩) (fun c hc => ?_) (by simpa using (hI.reg.new hh1 (by rw [← hw1]) (by rw [← hw1])).now 0)
      · rw [← run_eta ha1]
        exact set_at _ _ _ hlt
      · injection hc with hc
        subst hc
        refine ⟨⟨tm, by rw [hh1]; exact Array.getElem?_push_size⟩, fun hs => ?_, fun g hg ho => ?_, fun hs => ?_⟩
        · exact Nat.lt_irrefl _ (hI.reg.sLow _ hs)
        · exact Nat.lt_irrefl _ (hI.reg.low g _ hg ho)
        · exact Nat.lt_irrefl _ (hI.reg.cLow _ hs)
    · obtain ⟨a1, hs, _⟩ := h1 w0 (Keeps.refl _ _ _)
      have := hrec w0 (Keeps.refl _ _ _)
      rw [hs] at this
      cases this
  | @spawn E c outs O a a1 child w0 hr hr1 h1 h2 _ ih =>
    intro kids q gs w sl t Own W b hI
    refine inner (fun kids q gs w sl t Own W hI => .inl ?_) (fun c z v outs hrec => ?_) kids hI.acc _ b q gs w sl t Own W rfl hI
    · obtain ⟨off, hm⟩ : ∃ off, gs[0]? = some { a with status := .running, offers := off } := by
        rcases hI.main with ⟨_, k⟩ | ⟨k, _⟩
        · exact k
        · cases k
      have hrunT := runT_crowd_spawn (P := P) (sl := sl) (i := 0) (g' := a1) (child := child) (w' := w) (es := #[]) hm (h1 w hI.keep0)
      rw [ofE_nil] at hrunT
      refine ⟨_, _, hrunT, ?_⟩
      have := hI.spawn hr1 (h2 w hI.keep0) (x := { g := 0, fn := a.frame.fn, pos := a.frame.place, act := .go gs.size }) (y := { g := gs.size, fn := child.frame.fn, pos := a.frame.place, act := .start }) ⟨rfl, rfl⟩ ⟨rfl, rfl⟩
      exact ih _ q _ w sl _ _ _ true this
    · have e := h1 w0 (Keeps.refl _ _ _)
      have := hrec w0 (Keeps.refl _ _ _)
      rw [e] at this
      cases this
  | @recv E R c v z outs O a w0 hr h1 h2 _ ih =>
    intro kids q gs w sl t Own W b hI
    refine inner (fun kids q gs w sl t Own W hI => ?_) (fun c' z' v' outs' hrec hE => ?_) kids hI.acc _ b q gs w sl t Own W rfl hI
    · obtain ⟨j, x, hx, hc⟩ := hI.exp c _ h2
      subst hc
      have hki := hI.kid j x hx
      cases hki with
      | live k1 k2 k3 k4 k5 => exact .inr ⟨x.c, z, h1, j, x, hx, rfl, k1⟩
      | gone g0 k1 k2 k3 k4 =>
        rcases k4 with ⟨k, _⟩ | ⟨k, _⟩
        · rw [h2] at k; cases k
        · rw [h2] at k; cases k
      | sits v0 z0 outs0 k1 k2 k3 k4 k5 k6 =>
        left
        obtain ⟨off, hm⟩ : ∃ off, gs[0]? = some { a with status := .running, offers := off } := by
          rcases hI.main with ⟨_, k⟩ | ⟨k, _⟩
          · exact k
          · cases k
        have hlt : 0 < gs.size := (Array.getElem?_eq_some_iff.1 hm).1
        have hpos := hI.pos
        obtain ⟨e1, e2⟩ : v0 = v ∧ outs0 = outs := by
          rw [h2, k3] at k6
          injection k6 with k6
          injection k6 with k6 k7
          exact ⟨k6.symm, k7.symm⟩
        subst e1 e2
        obtain ⟨s, r, tm, ho⟩ := k5
        have hp : partners (gs.setIfInBounds 0 ph) x.c true = [(n0 + j, 0)] := by
          have := partners_one (gs := gs.setIfInBounds 0 ph) (r := x.c) (send := true) (j := n0 + j) (stand_get (i := 0) (by omega) k2) fun k y hk hy => by
            rcases getElem?_stand gs 0 k y hy with ⟨_, rfl⟩ | ⟨_, hy⟩
            · exact offersAt_ph _ _
            · exact hI.noSendK hx k y hk hy
          rw [this, offersAt_parked_send, if_pos rfl]
          rfl
        have hrunT := crowd_recv_meets (P := P) (sl := sl) (i := 0) (j := n0 + j) hm (h1 w hI.keep0) ho (by omega) k2 hp
        rw [ofE_nil, finishComm_send, finishComm_recv] at hrunT
        refine ⟨_, _, hrunT, ih (kids.set j { x with outs := outs0, g := Conc.served x.g undef, m := 2 }) q _ _ sl _ Own W true ?_⟩
        have hklt := hI.gsK hx
        refine hI.meet hx (by omega) k4 (w1 := w.setChan x.c 0 #[] false (s + 1) (r + 1) tm) rfl rfl rfl (by simp) ?_ ?_ (fun i h1 h2 => ?_) fun op hop => ?_
        · simp [hlt]
        · rw [Array.getElem?_setIfInBounds_ne (by omega)]
          simp [hklt]
        · rw [Array.getElem?_setIfInBounds_ne (Ne.symm h1), Array.getElem?_setIfInBounds_ne (Ne.symm h2)]
        · have hlow := hI.lowC hx
          simp only [Array.empty_append, List.mem_toArray, List.mem_cons, List.not_mem_nil, or_false] at hop
          rcases hop with rfl | rfl | rfl | rfl
          · exact ⟨.inr rfl, rfl, hlow, by simp, by simp⟩
          · exact ⟨.inl rfl, rfl, hlow, by simp, by simp⟩
          · exact ⟨.inr rfl, rfl, hlow, by simp, by simp⟩
          · exact ⟨.inl rfl, rfl, hlow, by simp, by simp⟩
    · obtain ⟨rfl, rfl⟩ := recvAt_eq h1 hrec
      rw [h2] at hE
      injection hE with hE
      injection hE with e1 e2
      subst e1 e2
      exact fun kids q gs w sl t Own W hI => ih kids q gs w sl t Own W true hI
  | @last E R c z O a w0 hr h1 h2 _ ih =>
    intro kids q gs w sl t Own W b hI
    refine inner (fun kids q gs w sl t Own W hI => ?_) (fun c' z' v' outs' hrec hE => ?_) kids hI.acc _ b q gs w sl t Own W rfl hI
    · obtain ⟨j, x, hx, hc⟩ := hI.exp c _ h2
      subst hc
      have hki := hI.kid j x hx
      cases hki with
      | live k1 k2 k3 k4 k5 => exact .inr ⟨x.c, z, h1, j, x, hx, rfl, k1⟩
      | sits v0 z0 outs0 k1 k2 k3 k4 k5 k6 => rw [h2, k3] at k6; cases k6
      | gone g0 k1 k2 k3 k4 =>
        left
        obtain ⟨off, hm⟩ : ∃ off, gs[0]? = some { a with status := .running, offers := off } := by
          rcases hI.main with ⟨_, k⟩ | ⟨k, _⟩
          · exact k
          · cases k
        have hlt : 0 < gs.size := (Array.getElem?_eq_some_iff.1 hm).1
        obtain ⟨s, r, tm, ho⟩ : ShutC w x.c := by
          rcases k4 with ⟨_, k, _⟩ | ⟨k, _⟩
          · exact k
          · rw [h2] at k; cases k
        have hp : partners (gs.setIfInBounds 0 ph) x.c true = [] := stand_nil fun k y _ hy => by
          refine hI.noSend (c := x.c) (fun i z hz hzc hz1 => ?_) k y hy
          have := hI.ch i j z x hz hx hzc
          subst this
          rw [hx] at hz
          injection hz with hz
          subst hz
          omega
        have hrunT := crowd_recv_closed (P := P) (sl := sl) (i := 0) hm (h1 w hI.keep0) ho hp
        rw [ofE_nil, finishComm_recv] at hrunT
        refine ⟨_, _, hrunT, ih kids q _ w sl _ Own W true ?_⟩
        have := hI.last hx h2 k1 (v := recvd true z false) (gs' := gs.setIfInBounds 0 (Conc.served a (recvd true z false))) (by simp) (by simp [hlt]) (fun i hi => Array.getElem?_setIfInBounds_ne (Ne.symm hi)) (y := { g := 0, fn := a.frame.fn, pos := a.frame.place, act := .recvClosed x.c }) ⟨rfl, rfl⟩
        simpa using this
    · obtain ⟨rfl, rfl⟩ := recvAt_eq h1 hrec
      rw [h2] at hE
      cases hE
  | @stop E O a w0 h1 h2 =>
    intro kids q gs w sl t Own W b hI
    have gone : ∀ (j : Nat) (x : Kid), kids[j]? = some x → ∃ g, gs[n0 + j]? = some g ∧ QuitsIn P (q (n0 + j)) g ∧ AllKnown (n0 + j) t := by
      intro j x hx
      have hki := hI.kid j x hx
      cases hki with
      | live k1 k2 k3 k4 k5 => rw [h1] at k5; cases k5
      | sits v0 z0 outs0 k1 k2 k3 k4 k5 k6 => rw [h1] at k6; cases k6
      | gone g0 k1 k2 k3 k4 =>
        rcases k4 with ⟨k, _⟩ | ⟨_, k⟩
        · rw [h1] at k; cases k
        · exact ⟨g0, k2, k3, k⟩
    have hkid : ∀ i, n0 ≤ i → i < gs.size → ∃ j x, i = n0 + j ∧ kids[j]? = some x := by
      intro i h1 h2
      rw [hI.size] at h2
      exact ⟨i - n0, kids[i - n0]'(by omega), by omega, List.getElem?_eq_getElem (by omega)⟩
    rcases hI.main with ⟨_, off, hm⟩ | ⟨_, c, z, hm, hr, j, x, hx, _, hm2⟩
    · refine fin a gs w sl t q off (h2 w hI.keep0) hm ⟨fun i g hi hg => ?_, hI.above⟩ (hI.reg.tb.toPast (.inl rfl) fun g hg hne => ?_)
      · have hlt : i < gs.size := (Array.getElem?_eq_some_iff.1 hg).1
        by_cases hn : i < n0
        · exact hI.old i g hi hn hg
        · obtain ⟨j, x, rfl, hx⟩ := hkid i (by omega) hlt
          obtain ⟨g0, k1, k2, _⟩ := gone j x hx
          rw [k1] at hg
          injection hg with hg
          subst hg
          rw [hI.reg.tb.hears _ (.inr ⟨by omega, hlt⟩)]
          exact QuitsD.of_quitsIn k2
      · rcases hg with hg | ⟨hg, hlt⟩
        · exact absurd hg hne
        · obtain ⟨j, x, rfl, hx⟩ := hkid g hg hlt
          exact (gone j x hx).choose_spec.2.2
    · have := (hI.kid j x hx).exp (by omega)
      rw [h1] at this
      cases this
end
end Go.Proofs.Ytgeoffpcmkofkaa
/- Trees are built step by step. -/
namespace Go.Proofs.Ytgeoffpcmkofkaa
open Go Go.Conc

section
variable {P : Program} {S : Nat → Prop} {c : Nat} {outs : List Value} {O O' : Nat → Prop} {g g1 : Goroutine} {w w' w1 w2 : World} {Fin : Goroutine → World → Prop} {E : Nat → Option (List Value)} {R : Option Nat} {a a1 : Goroutine}
theorem own_same (h : w1.heap.size = w2.heap.size) : own O w2 w1 = O := by
  funext r
  unfold own
  refine propext ⟨fun k => k.elim id fun k => ?_, .inl⟩
  omega
theorem Keeps.sub (h : Keeps O' S w w2) (k : ∀ r, O r → O' r) : Keeps O S w w2 := ⟨h.size, fun r hr => h.block r (hr.imp (k r) id), h.os, h.output⟩
theorem DidO.sub (h : DidO O w2 w1) (k : ∀ r, O r → O' r) : DidO O' w2 w1 := ⟨h.os, h.tape, h.output, h.size, fun r hr hn => h.kept r hr fun ho => hn (k r ho)⟩
theorem EvW.sub {e : Event} (h : EvW O S e) (k : ∀ r, O r → O' r) : EvW O' S e := by
  rcases h with ⟨a, h1, h2⟩ | h | ⟨r, h1, h2⟩
  · exact .inl ⟨a, h1, h2.imp (k _) id⟩
  · exact .inr (.inl h)
  · exact .inr (.inr ⟨r, h1, k r h2⟩)
theorem own_sub (k : ∀ r, O r → O' r) : ∀ r, own O w2 w1 r → own O' w2 w1 r := fun r h => h.imp (k r) id
theorem KT.keeps (h : KT P S c outs O g w) : ∀ {w'}, Keeps O S w w' → KT P S c outs O g w' := by
  induction h with
  | own hr h1 h2 _ => exact fun k => .own hr (fun w2 k2 => h1 w2 (k.trans k2)) fun w2 g1 w1 es k2 hs => h2 w2 g1 w1 es (k.trans k2) hs
  | send hr h1 _ ih => exact fun k => .send hr (fun w2 k2 => h1 w2 (k.trans k2)) (ih k)
  | shut hr hw h1 h2 => exact fun k => .shut hr hw (fun w2 cap s r tm k2 hc => h1 w2 cap s r tm (k.trans k2) hc) h2
theorem MB.keeps (h : MB P S Fin E R O a w) : ∀ {w'}, Keeps O S w w' → MB P S Fin E R O a w' := by
  induction h with
  | own hr h1 h2 _ => exact fun k => .own hr (fun w2 k2 => h1 w2 (k.trans k2)) fun w2 g1 w1 es k2 hs => h2 w2 g1 w1 es (k.trans k2) hs
  | make hr h1 h2 _ => exact fun k => .make hr (fun w2 k2 => h1 w2 (k.trans k2)) fun w2 g1 w1 es k2 hs => h2 w2 g1 w1 es (k.trans k2) hs
  | spawn hr hr1 h1 h2 _ ih => exact fun k => .spawn hr hr1 (fun w2 k2 => h1 w2 (k.trans k2)) (fun w2 k2 => h2 w2 (k.trans k2)) (ih k)
  | recv hr h1 h2 _ ih => exact fun k => .recv hr (fun w2 k2 => h1 w2 (k.trans k2)) h2 (ih k)
  | last hr h1 h2 _ ih => exact fun k => .last hr (fun w2 k2 => h1 w2 (k.trans k2)) h2 (ih k)
  | stop h1 h2 => exact fun k => .stop h1 fun w2 k2 => h2 w2 (k.trans k2)
theorem KT.go1 (hr : g.status = .running) (h : ∀ w2, Keeps O S w w2 → ∃ g1 w1 es, stepG P false g w2 = .go g1 w1 es ∧ DidO O w2 w1 ∧ (∀ e ∈ es, EvW (Ytgeoffpcmkofkaa.own O w2 w1) S e) ∧ KT P S c outs (Ytgeoffpcmkofkaa.own O w2 w1) g1 w1) : KT P S c outs O g w := by
  refine .own hr (fun w2 k => ?_) fun w2 g1 w1 es k hs => ?_
  · obtain ⟨g1, w1, es, h1, h2, h3, _⟩ := h w2 k
    exact ⟨g1, w1, es, h1, h2, h3⟩
  · obtain ⟨g1', w1', es', h1, _, _, h4⟩ := h w2 k
    rw [h1] at hs
    injection hs with e1 e2 _
    subst e1 e2
    exact h4
theorem MB.go1 (hr : a.status = .running) (h : ∀ w2, Keeps O S w w2 → ∃ a1 w1 es, stepG P true a w2 = .go a1 w1 es ∧ a1.status = .running ∧ DidO O w2 w1 ∧ (∀ e ∈ es, EvW (Ytgeoffpcmkofkaa.own O w2 w1) S e) ∧ MB P S Fin E R (Ytgeoffpcmkofkaa.own O w2 w1) a1 w1) : MB P S Fin E R O a w := by
  refine .own hr (fun w2 k => ?_) fun w2 g1 w1 es k hs => ?_
  · obtain ⟨g1, w1, es, h1, h2, h3, h4, _⟩ := h w2 k
    exact ⟨g1, w1, es, h1, h2, h3, h4⟩
  · obtain ⟨g1', w1', es', h1, _, _, _, h4⟩ := h w2 k
    rw [h1] at hs
    injection hs with e1 e2 _
    subst e1 e2
    exact h4
theorem DidO.refl (O : Nat → Prop) (w : World) : DidO O w w := ⟨rfl, rfl, rfl, Nat.le_refl _, fun _ _ _ => rfl⟩
/-- A step that only reads. -/
theorem KT.look (hr : g.status = .running) (h : ∀ w2, Keeps O S w w2 → ∃ es, stepG P false g w2 = .go g1 w2 es ∧ ∀ e ∈ es, EvW O S e) (k : KT P S c outs O g1 w) : KT P S c outs O g w :=
  .go1 hr fun w2 k2 => by
    obtain ⟨es, h1, h2⟩ := h w2 k2
    exact ⟨g1, w2, es, h1, .refl _ _, by rw [own_same rfl]; exact h2, by rw [own_same rfl]; exact k.keeps k2⟩
theorem MB.look (hr : a.status = .running) (hr1 : a1.status = .running) (h : ∀ w2, Keeps O S w w2 → ∃ es, stepG P true a w2 = .go a1 w2 es ∧ ∀ e ∈ es, EvW O S e) (k : MB P S Fin E R O a1 w) : MB P S Fin E R O a w :=
  .go1 hr fun w2 k2 => by
    obtain ⟨es, h1, h2⟩ := h w2 k2
    exact ⟨a1, w2, es, h1, hr1, .refl _ _, by rw [own_same rfl]; exact h2, by rw [own_same rfl]; exact k.keeps k2⟩
/-- A step that does not look at memory. -/
theorem KT.ctl (hr : g.status = .running) (h : ∀ w, stepG P false g w = .go g1 w #[]) (k : KT P S c outs O g1 w) : KT P S c outs O g w := .look hr (fun w2 _ => ⟨#[], h w2, by simp⟩) k
theorem MB.ctl (hr : a.status = .running) (hr1 : a1.status = .running) (h : ∀ w, stepG P true a w = .go a1 w #[]) (k : MB P S Fin E R O a1 w) : MB P S Fin E R O a w := .look hr hr1 (fun w2 _ => ⟨#[], h w2, by simp⟩) k
/-- A call that runs in company. -/
theorem KT.of_runs {base : List Frame} {FinR : (Nat → Prop) → Frame → World → Prop} {fr : Frame} {cs : List Frame} (h : Runs P S base FinR O fr cs w) (hf : ∀ O fr w, fr.mode = .returning → (∀ w2, Keeps O S w w2 → FinR O fr w2) → KT P S c outs O (G fr base) w) : KT P S c outs O (G fr cs) w := by
  induction h with
  | done hm hfin => exact hf _ _ _ hm hfin
  | step h1 _ ih =>
    refine .go1 rfl fun w2 k => ?_
    obtain ⟨fr1, cs1, w1, es, k1, k2, k3, k4⟩ := h1 w2 k
    exact ⟨_, w1, es, k2 false .running none, k3, fun e he => (k4 e he).toW, ih w2 fr1 cs1 w1 es k k1⟩
/-- The return of such a call: the value is the same, whatever the others do meanwhile. -/
theorem fin_ret2 {L : Nat} {FS : FuncId → Prop} {Sh : Nat → Prop} (HB : BodiesOK L FS P) {f : FuncId} (hf : FS f) {Q : Value → World → Prop} {fr' : Frame} (h : ∀ w2, Keeps O S w w2 → FinV L FS Sh P S (PostV P f Q) O fr' w2) (hm : fr'.mode = .returning) :
    ∃ v', (∀ w2, Keeps O S w w2 → ∃ B v wl, Has Sh B O S ∧ WR L FS Sh B wl w2 ∧ VR L FS B v v' ∧ Q v wl) ∧ ∀ w2 main c rest, stepG P main (G fr' (c :: rest)) w2 = .go (G (c.finish v') rest) w2 #[] := by
  obtain ⟨fn, hfn⟩ := HB.there f hf
  obtain ⟨ts, hts⟩ := tmps_of fn.results.toList (HB.res f hf fn hfn)
  refine ⟨resOf (ts.map fun t => fr'.tmps.getD t undef), fun w2 k => ?_, fun w2 main c rest => ?_⟩
  · obtain ⟨B, fr, wl, h1, h2, h3, h4, fn', v, h5, h6, h7⟩ := h w2 k
    rw [hfn] at h5
    injection h5 with h5
    subst h5
    have e := results_tmps hts fr.tmps
    have hv : v = resOf (ts.map fun t => fr.tmps.getD t undef) := by
      rw [e] at h6
      simp only [pure, Sem.run] at h6
      injection h6 with h6 _
      exact h6.symm
    subst hv
    exact ⟨B, _, wl, h1, h3, resOf_rel h2.tmps ts, h7⟩
  · obtain ⟨B, fr, wl, h1, h2, h3, h4, _⟩ := h w (Keeps.refl _ _ _)
    have e' := results_tmps hts fr'.tmps
    refine step_ret hm ?_ ?_ (by rw [h2.fn, h4]; exact hfn) (by rw [e']; rfl)
    · rw [h2.eq]; exact h2.ft.defers
    · rw [h2.eq]; exact h2.ft.kind
theorem Keeps.cell {ad : Addr} (h : Keeps O S w w2) (hb : O ad.block ∨ S ad.block) : w2.cell? ad = w.cell? ad := by
  unfold World.cell?
  rw [h.block ad.block hb]
end
end Go.Proofs.Ytgeoffpcmkofkaa
/- Runs of one alone do not hang on where the tape stands. -/
namespace Go.Proofs.Ytgeoffpcmkofkaa
open Go Go.Conc

/-- The same memory, another tape. -/
def mv (w : World) (T : Nat → Question → Nat) (d : Nat) : World := { w with tape := T, drawn := d }
section
variable {P : Program} {α β : Type} {Q : α → Prop} {Q' : β → Prop}
/-- A run that neither waits nor speaks to the world outside. -/
inductive Plain (P : Program) {α : Type} (Q : α → Prop) : Sem α → Prop
  | pure {a : α} : Q a → Plain P Q (.pure a)
  | load {m : Mode} {a : Addr} {k : Value → Sem α} : (∀ v, Plain P Q (k v)) → Plain P Q (.load m a k)
  | store {m : Mode} {a : Addr} {v : Value} {k : Sem α} : Plain P Q k → Plain P Q (.store m a v k)
  | new {o : Obj} {k : Nat → Sem α} : (∀ r, Plain P Q (k r)) → Plain P Q (.new o k)
  | shape {r : Nat} {k : Option (TypeId × Nat) → Sem α} : (∀ s, Plain P Q (k s)) → Plain P Q (.shape r k)
  | freeze {a : Addr} {n : Nat} {k : Sem α} : Plain P Q k → Plain P Q (.freeze a n k)
  | frozen {a : Addr} {k : Bool → Sem α} : (∀ s, Plain P Q (k s)) → Plain P Q (.frozen a k)
  | getObj {r : Nat} {k : Obj → Sem α} : (∀ o, Plain P Q (k o)) → Plain P Q (.getObj r k)
  | setObj {r : Nat} {o : Obj} {k : Sem α} : Plain P Q k → Plain P Q (.setObj r o k)
  | choose {q : Question} {k : Nat → Sem α} : (∀ n, Plain P Q (k n)) → Plain P Q (.choose q k)
  | program {k : Program → Sem α} : Plain P Q (k P) → Plain P Q (.program k)
  | mark {m : Mark} {k : Sem α} : (m = .noRoom ∨ ∃ f, m = .extern f) → Plain P Q k → Plain P Q (.mark m k)
  | halt {h : Halt} : MildH h → Plain P Q (.halt h)
  | dead {s : Sem α} : Dead P s → Plain P Q s
theorem p_bind {s : Sem β} (h : Plain P Q' s) {f : β → Sem α} (hf : ∀ b, Q' b → Plain P Q (f b)) : Plain P Q (s.bind f) := by
  induction h with
  | pure hq => exact hf _ hq
  | load _ ih => exact .load ih
  | store _ ih => exact .store ih
  | new _ ih => exact .new ih
  | shape _ ih => exact .shape ih
  | freeze _ ih => exact .freeze ih
  | frozen _ ih => exact .frozen ih
  | getObj _ ih => exact .getObj ih
  | setObj _ ih => exact .setObj ih
  | choose _ ih => exact .choose ih
  | program _ ih => exact .program ih
  | mark hm _ ih => exact .mark hm ih
  | halt hh => exact .halt hh
  | dead hd => exact .dead (dead_bind hd)
theorem farLoad_mv {w : World} {T : Nat → Question → Nat} {d : Nat} (a : Addr) (b : Bool) : (mv w T d).farLoad P a b = w.farLoad P a b := rfl
theorem seen_low {w : World} {at_ a : Addr} {u : TypeId} {b : Bool} (h : ¬at_.block < w.heap.size) : ∀ r, w.seen P at_ u a b ≠ .ok r := by
  intro r hr
  have hn : w.heap[at_.block]? = none := Array.getElem?_eq_none (by omega)
  unfold World.seen at hr
  simp only [hn, bind, Except.bind] at hr
  (repeat' split at hr) <;> cases hr
theorem farStore_mv {w : World} {T : Nat → Question → Nat} {d : Nat} (a : Addr) (v : Value) (b : Bool) {w1 : World} {l : List Addr} (h : w.farStore P a v b = .ok (w1, l)) : (mv w T d).farStore P a v b = .ok (mv w1 T d, l) ∧ w1.drawn = w.drawn ∧ w1.tape = w.tape ∧ w.heap.size = w1.heap.size ∧ ∀ x ∈ l, x.block < w.heap.size := by
  unfold World.farStore at h ⊢
  rw [show (mv w T d).heap = w.heap from rfl]
  split at h
  · rename_i at_ u _
    unfold World.viewStore at h ⊢
    rw [show (mv w T d).seen P at_ u a b = w.seen P at_ u a b from rfl]
    cases ht : tight P P.depth u with
    | false => simp [ht, bind, Except.bind] at h
    | true =>
      cases hs : w.seen P at_ u a b with
      | error e => simp [ht, hs, bind, Except.bind] at h
      | ok r =>
        obtain ⟨c, e, fz, first, like, cells⟩ := r
        cases hb : v.bytes? with
        | none => simp [ht, hs, hb, bind, Except.bind] at h
        | some bytes =>
          by_cases hl : some bytes.length ≠ like.bytes?.map (·.length)
          · simp [ht, hs, hb, hl, bind, Except.bind] at h
          · simp only [ht, hs, hb, hl, bind, Except.bind, pure, Except.pure, Bool.not_true, Bool.false_eq_true, if_false] at h ⊢
            generalize @List.foldlM (Except String) _ _ _ _ c cells = F at h ⊢
            cases F with
            | error e => cases h
            | ok c' =>
              injection h with h
              injection h with h1 h2
              subst h1 h2
              refine ⟨rfl, rfl, rfl, by simp, fun x hx => ?_⟩
              obtain ⟨y, _, rfl⟩ := List.mem_map.1 hx
              show at_.block < w.heap.size
              apply Classical.byContradiction
              exact fun hn => seen_low hn _ hs
  · cases h
theorem farLoad_low {w : World} {a : Addr} {b : Bool} {v : Value} {l : List Addr} (h : w.farLoad P a b = .ok (v, l)) : ∀ x ∈ l, x.block < w.heap.size := by
  unfold World.farLoad at h
  split at h
  · rename_i at_ u _
    split at h
    · rename_i r hr
      injection h with h
      subst h
      unfold World.viewLoad at hr
      cases hs : w.seen P at_ u a b with
      | error e => simp [hs, bind, Except.bind] at hr
      | ok q =>
        have hlt : at_.block < w.heap.size := by
          apply Classical.byContradiction
          exact fun hn => seen_low hn _ hs
        obtain ⟨c, e, fz, first, like, cells⟩ := q
        simp only [hs, bind, Except.bind, pure, Except.pure] at hr
        split at hr
        · injection hr with hr
          injection hr with _ hr
          subst hr
          intro x hx
          obtain ⟨y, _, rfl⟩ := List.mem_map.1 hx
          exact hlt
        · cases hr
    · cases h
  · cases h
/-- What such a run lists. -/
def EvP (N : Nat) (e : Event) : Prop := EvL (fun _ => False) N e
theorem evP_cell (a : Addr) (wr s : Bool) {N : Nat} (h : a.block < N) : EvP N ⟨.cell a, wr, s⟩ := ⟨fun _ _ h => h.elim, by simp, by simp, h⟩
theorem evP_obj (r : Nat) (wr s : Bool) {N : Nat} (h : r < N) : EvP N ⟨.obj r, wr, s⟩ := by
  refine ⟨fun _ _ h => h.elim, by simp, by simp, ?_⟩
  cases wr <;> cases s <;> exact h
theorem evP_mono {N N' : Nat} (h : N ≤ N') {e : Event} (he : EvP N e) : EvP N' e := ⟨he.1, he.2.1, he.2.2.1, MemAct.low_mono h he.2.2.2⟩
structure RunMv (P : Program) (s : Sem α) (w : World) (es : Array Event) (a : α) (w1 : World) (es1 : Array Event) : Prop where
  mono : w.drawn ≤ w1.drawn
  same : w1.tape = w.tape
  size : w.heap.size ≤ w1.heap.size
  low : ∀ e ∈ es1, e ∈ es ∨ EvP w1.heap.size e
  run : ∀ T d, (∀ i q, i < w1.drawn - w.drawn → T (d + i) q = w.tape (w.drawn + i) q) → s.runT P (mv w T d) es = (.ok a (mv w1 T (d + (w1.drawn - w.drawn))), es1)
theorem store_eq {m : Mode} {a : Addr} {v : Value} {k : Sem α} (h1 : ∀ c, v ≠ .agg c) (h2 : ∀ c, v ≠ .tuple c) (w : World) (es : Array Event) : (Sem.store m a v k).runT P w es = match w.cell? a with
    | some _ => if w.frozen? a then (.halt (.unsupported (.unsafePointer "a write to bytes that a string shares")) w, es) else k.runT P (w.setCell a v) (es.push ⟨.cell a, true, m == .atomic⟩)
    | none => match w.farStore P a v (m == .atomic) with
      | .ok (w, touched) => k.runT P w (es ++ touched.toArray.map (⟨.cell ·, true, m == .atomic⟩))
      | .error h => (.halt h w, es) := by
  cases v <;> first | rfl | exact absurd rfl (h1 _) | exact absurd rfl (h2 _)
theorem store_eq' {m : Mode} {a : Addr} {v : Value} {k : Sem α} (h1 : ∀ c, v ≠ .agg c) (h2 : ∀ c, v ≠ .tuple c) (w : World) : (Sem.store m a v k).run P w = match w.cell? a with
    | some _ => if w.frozen? a then .halt (.unsupported (.unsafePointer "a write to bytes that a string shares")) w else k.run P (w.setCell a v)
    | none => match w.farStore P a v (m == .atomic) with
      | .ok (w, _) => k.run P w
      | .error h => .halt h w := by
  cases v <;> first | rfl | exact absurd rfl (h1 _) | exact absurd rfl (h2 _)
theorem freeze_mv (w : World) (T : Nat → Question → Nat) (d : Nat) (a : Addr) (n : Nat) : (mv w T d).freeze a n = mv (w.freeze a n) T d ∧ (w.freeze a n).drawn = w.drawn ∧ (w.freeze a n).tape = w.tape ∧ (w.freeze a n).heap.size = w.heap.size := by
  unfold World.freeze
  split
  · exact ⟨rfl, rfl, rfl, rfl⟩
  · exact ⟨rfl, rfl, rfl, by simp⟩
theorem low_push {es es1 : Array Event} {N : Nat} {ev : Event} (hev : EvP N ev) (h : ∀ e ∈ es1, e ∈ es.push ev ∨ EvP N e) : ∀ e ∈ es1, e ∈ es ∨ EvP N e := by
  intro e he
  rcases h e he with h | h
  · rcases Array.mem_push.1 h with h | h
    · exact .inl h
    · rw [h]; exact .inr hev
  · exact .inr h
theorem low_app {es es1 u : Array Event} {N : Nat} (hev : ∀ e ∈ u, EvP N e) (h : ∀ e ∈ es1, e ∈ es ++ u ∨ EvP N e) : ∀ e ∈ es1, e ∈ es ∨ EvP N e := by
  intro e he
  rcases h e he with h | h
  · rcases Array.mem_append.1 h with h | h
    · exact .inl h
    · exact .inr (hev e h)
  · exact .inr h
theorem Plain.run_mv {s : Sem α} (h : Plain P Q s) : ∀ {w : World} {es : Array Event} {a : α} {w1 : World} {es1 : Array Event}, s.runT P w es = (.ok a w1, es1) → RunMv P s w es a w1 es1 := by
  induction h with
  | pure _ =>
    intro w es a w1 es1 hr
    simp only [Sem.runT] at hr
    cases hr
    refine ⟨Nat.le_refl _, rfl, Nat.le_refl _, fun e he => .inl he, fun T d _ => ?_⟩
    simp only [Sem.runT, Nat.sub_self, Nat.add_zero]
  | @load m a k _ ih =>
    intro w es x w1 es1 hr
    simp only [Sem.runT] at hr
    cases hc : w.cell? a with
    | some v =>
      rw [hc] at hr
      have g := ih v hr
      refine ⟨g.mono, g.same, g.size, low_push (evP_cell _ _ _ (Nat.lt_of_lt_of_le (World.block_lt_of_cell? w a hc) g.size)) g.low, fun T d hT => ?_⟩
      simp only [Sem.runT, show (mv w T d).cell? a = some v from hc]
      exact g.run T d hT
    | none =>
      rw [hc] at hr
      simp only at hr
      cases hf : w.farLoad P a (m == .atomic) with
      | error h => rw [hf] at hr; cases hr
      | ok r =>
        obtain ⟨v, l⟩ := r
        rw [hf] at hr
        have g := ih v hr
        refine ⟨g.mono, g.same, g.size, low_app (fun e he => ?_) g.low, fun T d hT => ?_⟩
        · obtain ⟨ad, had, rfl⟩ := Array.mem_map.1 he
          exact evP_cell _ _ _ (Nat.lt_of_lt_of_le (farLoad_low hf ad (by simpa using had)) g.size)
        · simp only [Sem.runT, show (mv w T d).cell? a = none from hc, farLoad_mv, hf]
          exact g.run T d hT
  | @store m a v k _ ih =>
    intro w es x w1 es1 hr
    have key : (∀ c, v ≠ .agg c) → (∀ c, v ≠ .tuple c) → RunMv P (.store m a v k) w es x w1 es1 := by
      intro h1 h2
      rw [store_eq h1 h2] at hr
      cases hc : w.cell? a with
      | some u =>
        rw [hc] at hr
        simp only at hr
        by_cases hf : w.frozen? a = true
        · rw [if_pos hf] at hr; cases hr
        · rw [if_neg hf] at hr
          have g := ih hr
          have hs : w.heap.size ≤ w1.heap.size := by have := g.size; unfold World.setCell at this; simpa using this
          refine ⟨g.mono, g.same, hs, low_push (evP_cell _ _ _ (Nat.lt_of_lt_of_le (World.block_lt_of_cell? w a hc) hs)) g.low, fun T d hT => ?_⟩
          rw [store_eq h1 h2]
          simp only [show (mv w T d).cell? a = some u from hc, show (mv w T d).frozen? a = w.frozen? a from rfl]
          rw [if_neg hf]
          exact g.run T d hT
      | none =>
        rw [hc] at hr
        simp only at hr
        cases hf : w.farStore P a v (m == .atomic) with
        | error h => rw [hf] at hr; cases hr
        | ok r =>
          obtain ⟨w2, l⟩ := r
          rw [hf] at hr
          have g := ih hr
          obtain ⟨_, e1, e2, e3, e4⟩ := farStore_mv (T := w.tape) (d := 0) a v _ hf
          have hs : w.heap.size ≤ w1.heap.size := by have := g.size; omega
          refine ⟨by have := g.mono; omega, by rw [g.same, e2], hs, low_app (fun e he => ?_) g.low, fun T d hT => ?_⟩
          · obtain ⟨ad, had, rfl⟩ := Array.mem_map.1 he
            exact evP_cell _ _ _ (Nat.lt_of_lt_of_le (e4 ad (by simpa using had)) hs)
          · rw [store_eq h1 h2]
            simp only [show (mv w T d).cell? a = none from hc, (farStore_mv (T := T) (d := d) a v _ hf).1]
            rw [← e1]
            exact g.run T d fun i q hi => by rw [e1, e2]; exact hT i q (by omega)
    cases v with
    | agg c => simp [Sem.runT] at hr
    | tuple c => simp [Sem.runT] at hr
    | _ => exact key (fun _ h => by cases h) (fun _ h => by cases h)
  | @new o k _ ih =>
    intro w es x w1 es1 hr
    simp only [Sem.runT] at hr
    have g := ih _ hr
    exact ⟨g.mono, g.same, Nat.le_trans (by simp) g.size, g.low, fun T d hT => g.run T d hT⟩
  | shape _ ih =>
    intro w es x w1 es1 hr
    simp only [Sem.runT] at hr
    have g := ih _ hr
    exact ⟨g.mono, g.same, g.size, g.low, fun T d hT => g.run T d hT⟩
  | @freeze a n k _ ih =>
    intro w es x w1 es1 hr
    simp only [Sem.runT] at hr
    have g := ih hr
    obtain ⟨_, e1, e2, e3⟩ := freeze_mv w w.tape 0 a n
    refine ⟨by have := g.mono; omega, by rw [g.same, e2], by have := g.size; omega, g.low, fun T d hT => ?_⟩
    simp only [Sem.runT, (freeze_mv w T d a n).1]
    rw [← e1]
    exact g.run T d fun i q hi => by rw [e1, e2]; exact hT i q (by omega)
  | frozen _ ih =>
    intro w es x w1 es1 hr
    simp only [Sem.runT] at hr
    have g := ih _ hr
    exact ⟨g.mono, g.same, g.size, g.low, fun T d hT => g.run T d hT⟩
  | @getObj r k _ ih =>
    intro w es x w1 es1 hr
    simp only [Sem.runT] at hr
    cases hc : w.heap[r]? with
    | none => rw [hc] at hr; cases hr
    | some o =>
      have hlt := (Array.getElem?_eq_some_iff.1 hc).1
      have key : (∀ c e f, o ≠ .cells c e f) → RunMv P (.getObj r k) w es x w1 es1 := by
        intro hno
        have e : ∀ (w : World) (es : Array Event), w.heap[r]? = some o → (Sem.getObj r k).runT P w es = (k o).runT P w (es.push ⟨.obj r, false, o.isChan⟩) := by
          intro w es hc
          simp only [Sem.runT, hc]
        have hr' : (k o).runT P w (es.push ⟨.obj r, false, o.isChan⟩) = (.ok x w1, es1) := by
          rw [← e w es hc]
          simp only [Sem.runT]
          exact hr
        have g := ih o hr'
        refine ⟨g.mono, g.same, g.size, low_push (evP_obj _ _ _ (Nat.lt_of_lt_of_le hlt g.size)) g.low, fun T d hT => ?_⟩
        rw [e (mv w T d) es hc]
        exact g.run T d hT
      cases o with
      | cells c e f => rw [hc] at hr; cases hr
      | _ => exact key (fun _ _ _ h => by cases h)
  | @setObj r o k _ ih =>
    intro w es x w1 es1 hr
    simp only [Sem.runT] at hr
    cases hc : w.heap[r]? with
    | none => rw [hc] at hr; cases hr
    | some o' =>
      have hlt := (Array.getElem?_eq_some_iff.1 hc).1
      have key : (∀ c e f, o' ≠ .cells c e f) → RunMv P (.setObj r o k) w es x w1 es1 := by
        intro hno
        have e : ∀ (w : World) (es : Array Event), w.heap[r]? = some o' → (Sem.setObj r o k).runT P w es = k.runT P { w with heap := w.heap.setIfInBounds r o } (es.push ⟨.obj r, true, o.isChan⟩) := by
          intro w es hc
          simp only [Sem.runT, hc]
        have hr' : k.runT P { w with heap := w.heap.setIfInBounds r o } (es.push ⟨.obj r, true, o.isChan⟩) = (.ok x w1, es1) := by
          rw [← e w es hc]
          simp only [Sem.runT]
          exact hr
        have g := ih hr'
        have hs : w.heap.size ≤ w1.heap.size := by have := g.size; simpa using this
        refine ⟨g.mono, g.same, hs, low_push (evP_obj _ _ _ (Nat.lt_of_lt_of_le hlt hs)) g.low, fun T d hT => ?_⟩
        rw [e (mv w T d) es hc]
        exact g.run T d hT
      cases o' with
      | cells c e f => rw [hc] at hr; cases hr
      | _ => exact key (fun _ _ _ h => by cases h)
  | @choose q k _ ih =>
    intro w es x w1 es1 hr
    simp only [Sem.runT] at hr
    by_cases hq : q.forced = true
    · rw [if_pos hq] at hr
      have g := ih _ hr
      refine ⟨g.mono, g.same, g.size, g.low, fun T d hT => ?_⟩
      simp only [Sem.runT, if_pos hq]
      exact g.run T d hT
    · rw [if_neg hq] at hr
      have g := ih _ hr
      have hm : w.drawn + 1 ≤ w1.drawn := g.mono
      refine ⟨by omega, g.same, g.size, g.low, fun T d hT => ?_⟩
      simp only [Sem.runT, if_neg hq]
      have e : (mv w T d).tape (mv w T d).drawn q = w.tape w.drawn q := by
        have := hT 0 q (by omega)
        show T d q = w.tape w.drawn q
        simpa using this
      rw [e]
      have := g.run T (d + 1) fun i q hi => by
        have := hT (i + 1) q (by simp only at hi; omega)
        rw [show d + 1 + i = d + (i + 1) by omega, this]
        simp only
        rw [show w.drawn + 1 + i = w.drawn + (i + 1) by omega]
      simp only at this
      rw [show d + 1 + (w1.drawn - (w.drawn + 1)) = d + (w1.drawn - w.drawn) by omega] at this
      exact this
  | program _ ih =>
    intro w es x w1 es1 hr
    simp only [Sem.runT] at hr
    have g := ih hr
    exact ⟨g.mono, g.same, g.size, g.low, fun T d hT => g.run T d hT⟩
  | @mark m k hm _ ih =>
    intro w es x w1 es1 hr
    simp only [Sem.runT] at hr
    have g := ih hr
    refine ⟨g.mono, g.same, g.size, low_push ?_ g.low, fun T d hT => g.run T d hT⟩
    rcases hm with rfl | ⟨f, rfl⟩ <;> exact ⟨fun _ _ h => h.elim, by simp, by simp, trivial⟩
  | halt _ =>
    intro w es x w1 es1 hr
    simp only [Sem.runT] at hr
    cases hr
  | @dead s hd =>
    intro w es x w1 es1 hr
    have := Sem.runT_fst P s w es
    rw [hr] at this
    exact absurd this.symm (hd.1 _ _ _)
theorem Plain.mild {s : Sem α} (h : Plain P Q s) : ∀ {w : World} {x : Halt} {w1 : World}, s.run P w = .halt x w1 → MildH x := by
  induction h with
  | pure _ => intro w x w1 hr; cases hr
  | @load m a k _ ih =>
    intro w x w1 hr
    simp only [Sem.run] at hr
    split at hr
    · exact ih _ hr
    · split at hr
      · exact ih _ hr
      · rename_i hf
        injection hr with hr _
        subst hr
        exact farLoad_mild hf
  | @store m a v k _ ih =>
    intro w x w1 hr
    have key : (∀ c, v ≠ .agg c) → (∀ c, v ≠ .tuple c) → MildH x := by
      intro h1 h2
      rw [store_eq' h1 h2] at hr
      split at hr
      · split at hr
        · injection hr with hr _; subst hr; trivial
        · exact ih hr
      · split at hr
        · exact ih hr
        · rename_i hf
          injection hr with hr _
          subst hr
          exact farStore_mild hf
    cases v with
    | agg c => simp only [Sem.run] at hr; injection hr with hr _; subst hr; trivial
    | tuple c => simp only [Sem.run] at hr; injection hr with hr _; subst hr; trivial
    | _ => exact key (fun _ h => by cases h) (fun _ h => by cases h)
  | new _ ih => intro w x w1 hr; exact ih _ hr
  | shape _ ih => intro w x w1 hr; exact ih _ hr
  | freeze _ ih => intro w x w1 hr; exact ih hr
  | frozen _ ih => intro w x w1 hr; exact ih _ hr
  | @getObj r k _ ih =>
    intro w x w1 hr
    simp only [Sem.run] at hr
    split at hr
    · injection hr with hr _; subst hr; trivial
    · exact ih _ hr
    · injection hr with hr _; subst hr; trivial
  | @setObj r o k _ ih =>
    intro w x w1 hr
    simp only [Sem.run] at hr
    split at hr
    · injection hr with hr _; subst hr; trivial
    · exact ih hr
    · injection hr with hr _; subst hr; trivial
  | @choose q k _ ih =>
    intro w x w1 hr
    simp only [Sem.run] at hr
    split at hr
    · exact ih _ hr
    · exact ih _ hr
  | program _ ih => intro w x w1 hr; exact ih hr
  | mark _ _ ih => intro w x w1 hr; exact ih hr
  | halt hh => intro w x w1 hr; simp only [Sem.run] at hr; injection hr with hr _; subst hr; exact hh
  | dead hd => intro w x w1 hr; exact hd.2 _ _ _ hr
theorem Plain.post {s : Sem α} (h : Plain P Q s) : ∀ {w : World} {a : α} {w1 : World}, s.run P w = .ok a w1 → Q a := by
  induction h with
  | pure hq => intro w x w1 hr; simp only [Sem.run] at hr; injection hr with hr _; subst hr; exact hq
  | @load m a k _ ih =>
    intro w x w1 hr
    simp only [Sem.run] at hr
    split at hr
    · exact ih _ hr
    · split at hr
      · exact ih _ hr
      · cases hr
  | @store m a v k _ ih =>
    intro w x w1 hr
    have key : (∀ c, v ≠ .agg c) → (∀ c, v ≠ .tuple c) → Q x := by
      intro h1 h2
      rw [store_eq' h1 h2] at hr
      split at hr
      · split at hr
        · cases hr
        · exact ih hr
      · split at hr
        · exact ih hr
        · cases hr
    cases v with
    | agg c => simp only [Sem.run] at hr; cases hr
    | tuple c => simp only [Sem.run] at hr; cases hr
    | _ => exact key (fun _ h => by cases h) (fun _ h => by cases h)
  | new _ ih => intro w x w1 hr; exact ih _ hr
  | shape _ ih => intro w x w1 hr; exact ih _ hr
  | freeze _ ih => intro w x w1 hr; exact ih hr
  | frozen _ ih => intro w x w1 hr; exact ih _ hr
  | @getObj r k _ ih =>
    intro w x w1 hr
    simp only [Sem.run] at hr
    split at hr
    · cases hr
    · exact ih _ hr
    · cases hr
  | @setObj r o k _ ih =>
    intro w x w1 hr
    simp only [Sem.run] at hr
    split at hr
    · cases hr
    · exact ih hr
    · cases hr
  | @choose q k _ ih =>
    intro w x w1 hr
    simp only [Sem.run] at hr
    split at hr
    · exact ih _ hr
    · exact ih _ hr
  | program _ ih => intro w x w1 hr; exact ih hr
  | mark _ _ ih => intro w x w1 hr; exact ih hr
  | halt hh => intro w x w1 hr; cases hr
  | dead hd => intro w x w1 hr; exact absurd hr (hd.1 _ _ _)
end
end Go.Proofs.Ytgeoffpcmkofkaa
