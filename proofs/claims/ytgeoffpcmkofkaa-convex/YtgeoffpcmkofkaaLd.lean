/- The machine with one that starts others and receives from them comes to the end, whatever the tape: the whole. -/
import Derived.Test.YtgeoffpcmkofkaaLc
namespace Go.Proofs.Ytgeoffpcmkofkaa
open Go Go.Conc

section
variable {P : Program} {S : Nat → Prop} {n0 : Nat} {E : Nat → Option (List Value)} {R : Option Nat} {O : Nat → Prop} {a : Goroutine} {w0 : World} {Post : Value → World → Prop} {Fin : Goroutine → World → Prop}
theorem recvAt_eq {c c' : Nat} {z z' : Value} (h : RecvAt P S O a w0 c z) (h' : RecvAt P S O a w0 c' z') : c' = c ∧ z' = z := by
  have e := h w0 (Keeps.refl _ _ _)
  rw [h' w0 (Keeps.refl _ _ _)] at e
  injection e with _ e
  simp only [rcase, Array.mk.injEq, List.cons.injEq, CommCase.mk.injEq, Value.chan.injEq, Option.some.injEq] at e
  exact ⟨e.1.1, e.1.2.2⟩
theorem run_eta {a1 : Goroutine} (h : a1.status = .running) : some a1 = some { a1 with status := .running, offers := a1.offers } := by
  obtain ⟨f, c, s, d, o⟩ := a1
  simp only at h
  subst h
  rfl
section
variable {kids : List Kid} {q : Nat → Nat} {gs : Array Goroutine} {w w1 : World} {t : Trace} {Own : Nat → Nat → Prop} {W : Nat → World} {b : Bool}
/-- One more is started. -/
theorem CI.spawn {c : Nat} (h : CI P S n0 E (some c) O a w0 kids q gs w t Own W b) {a1 child : Goroutine} {outs : List Value} (h1 : a1.status = .running) (hk : KT P S c outs (fun _ => False) child w) {x y : MemOp} (hx : x.g = 0 ∧ x.act = .go gs.size) (hy : y.g = gs.size ∧ y.act = .start) :
    CI P S n0 (put E c (some outs)) none O a1 w0 (kids ++ [⟨c, outs, fun _ => False, child, w, 2⟩]) q ((gs.setIfInBounds 0 a1).push child) w (t ++ #[x, y]) (put Own gs.size fun _ => False) (put W gs.size w) true := by
  have hpos := h.pos
  have hsz := h.size
  obtain ⟨⟨tm, c1⟩, c2, c3, c4⟩ := h.res c rfl
  have hclt : c < w.heap.size := (Array.getElem?_eq_some_iff.1 c1).1
  have h0lt : 0 < gs.size := by omega
  have hss : ((gs.setIfInBounds 0 a1).push child).size = gs.size + 1 := by simp
  have hget : ∀ i, i ≠ 0 → i < gs.size → ((gs.setIfInBounds 0 a1).push child)[i]? = gs[i]? := fun i hi hlt => by
    rw [Array.getElem?_push_lt (by simpa using hlt)]
    simp [hlt, Ne.symm hi]
  have hnew : ((gs.setIfInBounds 0 a1).push child)[gs.size]? = some child := by
    have : gs.size = (gs.setIfInBounds 0 a1).size := by simp
    rw [this]
    exact Array.getElem?_push_size
  have hchs : ∀ d, Chs (kids ++ [⟨c, outs, fun _ => False, child, w, 2⟩]) d ↔ Chs kids d ∨ d = c := by
    intro d
    refine ⟨fun ⟨j, z, hz, hd⟩ => ?_, fun hd => ?_⟩
    · rcases Nat.lt_or_ge j kids.length with hj | hj
      · rw [List.getElem?_append_left hj] at hz
        exact .inl ⟨j, z, hz, hd⟩
      · rw [List.getElem?_append_right hj] at hz
        have : j - kids.length = 0 := by
          rcases Nat.eq_zero_or_pos (j - kids.length) with e | e
          · exact e
          · rw [List.getElem?_eq_none (by simp; omega)] at hz; cases hz
        rw [this] at hz
        simp only [List.getElem?_cons_zero, Option.some.injEq] at hz
        subst hz
        exact .inr hd.symm
    · rcases hd with ⟨j, z, hz, hd⟩ | rfl
      · exact ⟨j, z, by rw [List.getElem?_append_left (List.getElem?_eq_some_iff.1 hz).1]; exact hz, hd⟩
      · exact ⟨kids.length, ⟨d, outs, fun _ => False, child, w, 2⟩, by rw [List.getElem?_append_right (Nat.le_refl _)]; simp, rfl⟩
  have kcases : ∀ (j : Nat) (z : Kid), (kids ++ [⟨c, outs, fun _ => False, child, w, 2⟩])[j]? = some z → kids[j]? = some z ∨ (j = kids.length ∧ z = ⟨c, outs, fun _ => False, child, w, 2⟩) := by
    intro j z hz
    rcases Nat.lt_or_ge j kids.length with hj | hj
    · rw [List.getElem?_append_left hj] at hz
      exact .inl hz
    · rw [List.getElem?_append_right hj] at hz
      have : j - kids.length = 0 := by
        rcases Nat.eq_zero_or_pos (j - kids.length) with e | e
        · exact e
        · rw [List.getElem?_eq_none (by simp; omega)] at hz; cases hz
      rw [this] at hz
      simp only [List.getElem?_cons_zero, Option.some.injEq] at hz
      exact .inr ⟨by omega, hz.symm⟩
  have hdeaf : ∀ g, Deaf (t ++ #[x, y]) g = Deaf t g := fun g => deaf_same fun op hop => by
    have : op = x ∨ op = y := by simpa using hop
    rcases this with rfl | rfl
    · rw [hx.2]; simp
    · rw [hy.2]; simp
  have hreg := h.reg.fork (Live' := LiveG n0 (gs.size + 1)) (Ch' := Chs (kids ++ [⟨c, outs, fun _ => False, child, w, 2⟩])) (.inl rfl) (k := gs.size) (by rintro (e | e) <;> omega) (h.above _ (Nat.le_refl _)) hx hy (fun g => by unfold LiveG; omega) hchs hclt c3 c2
  refine ⟨hpos, by simp [hsz]; omega, fun i g k1 k2 hg => ?_, fun j hj => ?_, .inl ⟨rfl, a1.offers, ?_⟩, by rw [put_ne _ _ (by omega)]; exact h.own0, by rw [put_ne _ _ (by omega)]; exact h.w0, fun j z hz => ?_, fun j z hz => ?_, fun i j z z' hz hz' he => ?_, (fun c hc => by cases hc), fun d o hd => ?_, by rw [hss]; exact hreg⟩
  · rw [hdeaf]
    exact h.old i g k1 k2 (by rw [← hget i (by omega) (by omega)]; exact hg)
  · rw [hdeaf]; exact h.above j (by simp at hj; omega)
  · rw [← run_eta h1, Array.getElem?_push_lt (by simpa using h0lt)]
    simp
  · rcases kcases j z hz with hz | ⟨rfl, rfl⟩
    · have hj := (List.getElem?_eq_some_iff.1 hz).1
      have hne : z.c ≠ c := fun e => c4 ⟨j, z, hz, e⟩
      refine (h.kid j z hz).keep (hget _ (by omega) (by omega)) rfl (put_ne _ _ hne) rfl fun op hop hg => ?_
      have : op = x ∨ op = y := by simpa using hop
      rcases this with rfl | rfl
      · omega
      · omega
    · exact .live rfl (by rw [← hsz]; exact hnew) hk ⟨0, 0, tm, c1⟩ (put_same _ _ _)
  · rcases kcases j z hz with hz | ⟨rfl, rfl⟩
    · have hj := (List.getElem?_eq_some_iff.1 hz).1
      rw [put_ne _ _ (by omega), put_ne _ _ (by omega)]
      exact h.kown j z hz
    · rw [← hsz, put_same, put_same]
      exact ⟨rfl, fun _ => rfl⟩
  · rcases kcases i z hz with hz | ⟨rfl, rfl⟩ <;> rcases kcases j z' hz' with hz' | ⟨rfl, rfl⟩
    · exact h.ch i j z z' hz hz' he
    · exact absurd ⟨i, z, hz, he⟩ c4
    · exact absurd ⟨j, z', hz', he.symm⟩ c4
    · rfl
  · rw [hchs]
    by_cases e : d = c
    · exact .inr e
    · rw [put_ne _ _ e] at hd
      exact .inl (h.exp d o hd)
end
theorem crowd_fine
    (fin : ∀ (a : Goroutine) (gs : Array Goroutine) (w : World) (sl : Option (Nat × Nat)) (t : Trace) (q : Nat → Nat) (off : Option (Array CommCase × CommShape)), Fin a w → gs[0]? = some { a with status := .running, offers := off } → Leavers P t gs q → Past (fun _ => False) w.heap.size t → Fine P Post (crowd gs w sl) t)
    (h : MB P S Fin E R O a w0) : ∀ (kids : List Kid) (q : Nat → Nat) (gs : Array Goroutine) (w : World) (sl : Option (Nat × Nat)) (t : Trace) (Own : Nat → Nat → Prop) (W : Nat → World) (b : Bool), CI P S n0 E R O a w0 kids q gs w t Own W b → Fine P Post (crowd gs w sl) t := by
  induction h with
  | @own E R O a w0 hr h1 h2 ih =>
    intro kids q gs w sl t Own W b hI
    refine inner (fun kids q gs w sl t Own W hI => .inl ?_) (fun c z v outs hrec => ?_) kids hI.acc _ b q gs w sl t Own W rfl hI
    · obtain ⟨a1, w1, es, hs, ha1, hd, he⟩ := h1 w hI.keep0
      obtain ⟨off, hm⟩ : ∃ off, gs[0]? = some { a with status := .running, offers := off } := by
        rcases hI.main with ⟨_, k⟩ | ⟨k, _⟩
        · exact k
        · cases k
      have hlt : 0 < gs.size := (Array.getElem?_eq_some_iff.1 hm).1
      have hrunT := runT_crowd_go (P := P) (sl := sl) (i := 0) (g' := a1) (w' := w1) (es := es) hm hs
      refine ⟨_, _, hrunT, ih w a1 w1 es hI.keep0 hs kids q _ w1 sl _ (put Own 0 (own O w w1)) (put W 0 w1) true ?_⟩
      have hdL : DidO (Own 0) w w1 := by rw [hI.own0]; exact hd
      have hch := hI.chan_did (.inl rfl) hdL
      have hres := hI.res_did (.inl rfl) hdL
      have hreg := hI.reg.step (.inl rfl) hdL (es := es) (by rw [hI.own0]; exact he) a.frame.fn a.frame.place
      rw [hI.own0] at hres hreg
      have hall := hI.woken (w1 := w1) (fun i z hz hm => ((hI.kid i z hz).openC hm).of (hch i z hz)) { a with status := .running, offers := off } a1
      refine hI.mainTo (by simp) (set_get _ _ _ _ fun i x _ hx => hall i x hx) hch (calm_of he) (.inl ⟨rfl, a1.offers, ?_⟩) (put_same _ _ _) (put_same _ _ _) (fun i hi => ⟨put_ne _ _ hi, put_ne _ _ hi⟩) hres hreg
      rw [← run_eta ha1]
      exact set_at _ _ _ hlt
    · obtain ⟨a1, w1, es, hs, _⟩ := h1 w0 (Keeps.refl _ _ _)
      have := hrec w0 (Keeps.refl _ _ _)
      rw [hs] at this
      cases this
  | @make E O a w0 tm hr h1 h2 ih =>
    intro kids q gs w sl t Own W b hI
    refine inner (fun kids q gs w sl t Own W hI => .inl ?_) (fun c z v outs hrec => ?_) kids hI.acc _ b q gs w sl t Own W rfl hI
    · obtain ⟨a1, hs, ha1⟩ := h1 w hI.keep0
      obtain ⟨off, hm⟩ : ∃ off, gs[0]? = some { a with status := .running, offers := off } := by
        rcases hI.main with ⟨_, k⟩ | ⟨k, _⟩
        · exact k
        · cases k
      have hlt : 0 < gs.size := (Array.getElem?_eq_some_iff.1 hm).1
      have hrunT := runT_crowd_go (P := P) (sl := sl) (i := 0) (g' := a1) (es := #[]) hm hs
      have hih := ih w a1 _ #[] hI.keep0 hs
      generalize hw1 : ({ w with heap := w.heap.push (.chan 0 #[] false 0 0 tm) } : World) = w1 at hrunT hih
      have hh1 : w1.heap = w.heap.push (.chan 0 #[] false 0 0 tm) := by rw [← hw1]
      refine ⟨_, _, hrunT, hih kids q _ w1 sl _ Own (put W 0 w1) true ?_⟩
      have hch : ∀ (i : Nat) (z : Kid), kids[i]? = some z → w1.heap[z.c]? = w.heap[z.c]? := fun i z hz => by
        have := hI.lowC hz
        rw [hh1, Array.getElem?_push_lt this]
        simp [this]
      have hall := hI.woken (w1 := w1) (fun i z hz hm => ((hI.kid i z hz).openC hm).of (hch i z hz)) { a with status := .running, offers := off } a1
      rw [ofE_nil]
      refine hI.mainTo (by simp) (set_get _ _ _ _ fun i x _ hx => hall i x hx) hch (by simp) (.inl ⟨rfl, a1.offers, ?_⟩) hI.own0 (put_same _ _ _) (fun i hi => ⟨rfl, put_ne _ _ hi⟩) (fun c hc => ?_) (by simpa using (hI.reg.new hh1 (by rw [← hw1]) (by rw [← hw1])).now 0)
      · rw [← run_eta ha1]
        exact set_at _ _ _ hlt
      · injection hc with hc
        subst hc
        refine ⟨⟨tm, by rw [hh1]; exact Array.getElem?_push_size⟩, fun hs => ?_, fun g hg ho => ?_, fun hs => ?_⟩
        · exact Nat.lt_irrefl _ (hI.reg.sLow _ hs)
        · exact Nat.lt_irrefl _ (hI.reg.low g _ hg ho)
        · exact Nat.lt_irrefl _ (hI.reg.cLow _ hs)
    · obtain ⟨a1, hs, _⟩ := h1 w0 (Keeps.refl _ _ _)
      have := hrec w0 (Keeps.refl _ _ _)
      rw [hs] at this
      cases this
  | @spawn E c outs O a a1 child w0 hr hr1 h1 h2 _ ih =>
    intro kids q gs w sl t Own W b hI
    refine inner (fun kids q gs w sl t Own W hI => .inl ?_) (fun c z v outs hrec => ?_) kids hI.acc _ b q gs w sl t Own W rfl hI
    · obtain ⟨off, hm⟩ : ∃ off, gs[0]? = some { a with status := .running, offers := off } := by
        rcases hI.main with ⟨_, k⟩ | ⟨k, _⟩
        · exact k
        · cases k
      have hrunT := runT_crowd_spawn (P := P) (sl := sl) (i := 0) (g' := a1) (child := child) (w' := w) (es := #[]) hm (h1 w hI.keep0)
      rw [ofE_nil] at hrunT
      refine ⟨_, _, hrunT, ?_⟩
      have := hI.spawn hr1 (h2 w hI.keep0) (x := { g := 0, fn := a.frame.fn, pos := a.frame.place, act := .go gs.size }) (y := { g := gs.size, fn := child.frame.fn, pos := a.frame.place, act := .start }) ⟨rfl, rfl⟩ ⟨rfl, rfl⟩
      exact ih _ q _ w sl _ _ _ true this
    · have e := h1 w0 (Keeps.refl _ _ _)
      have := hrec w0 (Keeps.refl _ _ _)
      rw [e] at this
      cases this
  | @recv E R c v z outs O a w0 hr h1 h2 _ ih =>
    intro kids q gs w sl t Own W b hI
    refine inner (fun kids q gs w sl t Own W hI => ?_) (fun c' z' v' outs' hrec hE => ?_) kids hI.acc _ b q gs w sl t Own W rfl hI
    · obtain ⟨j, x, hx, hc⟩ := hI.exp c _ h2
      subst hc
      have hki := hI.kid j x hx
      cases hki with
      | live k1 k2 k3 k4 k5 => exact .inr ⟨x.c, z, h1, j, x, hx, rfl, k1⟩
      | gone g0 k1 k2 k3 k4 =>
        rcases k4 with ⟨k, _⟩ | ⟨k, _⟩
        · rw [h2] at k; cases k
        · rw [h2] at k; cases k
      | sits v0 z0 outs0 k1 k2 k3 k4 k5 k6 =>
        left
        obtain ⟨off, hm⟩ : ∃ off, gs[0]? = some { a with status := .running, offers := off } := by
          rcases hI.main with ⟨_, k⟩ | ⟨k, _⟩
          · exact k
          · cases k
        have hlt : 0 < gs.size := (Array.getElem?_eq_some_iff.1 hm).1
        have hpos := hI.pos
        obtain ⟨e1, e2⟩ : v0 = v ∧ outs0 = outs := by
          rw [h2, k3] at k6
          injection k6 with k6
          injection k6 with k6 k7
          exact ⟨k6.symm, k7.symm⟩
        subst e1 e2
        obtain ⟨s, r, tm, ho⟩ := k5
        have hp : partners (gs.setIfInBounds 0 ph) x.c true = [(n0 + j, 0)] := by
          have := partners_one (gs := gs.setIfInBounds 0 ph) (r := x.c) (send := true) (j := n0 + j) (stand_get (i := 0) (by omega) k2) fun k y hk hy => by
            rcases getElem?_stand gs 0 k y hy with ⟨_, rfl⟩ | ⟨_, hy⟩
            · exact offersAt_ph _ _
            · exact hI.noSendK hx k y hk hy
          rw [this, offersAt_parked_send, if_pos rfl]
          rfl
        have hrunT := crowd_recv_meets (P := P) (sl := sl) (i := 0) (j := n0 + j) hm (h1 w hI.keep0) ho (by omega) k2 hp
        rw [ofE_nil, finishComm_send, finishComm_recv] at hrunT
        refine ⟨_, _, hrunT, ih (kids.set j { x with outs := outs0, g := Conc.served x.g undef, m := 2 }) q _ _ sl _ Own W true ?_⟩
        have hklt := hI.gsK hx
        refine hI.meet hx (by omega) k4 (w1 := w.setChan x.c 0 #[] false (s + 1) (r + 1) tm) rfl rfl rfl (by simp) ?_ ?_ (fun i h1 h2 => ?_) fun op hop => ?_
        · simp [hlt]
        · rw [Array.getElem?_setIfInBounds_ne (by omega)]
          simp [hklt]
        · rw [Array.getElem?_setIfInBounds_ne (Ne.symm h1), Array.getElem?_setIfInBounds_ne (Ne.symm h2)]
        · have hlow := hI.lowC hx
          simp only [Array.empty_append, List.mem_toArray, List.mem_cons, List.not_mem_nil, or_false] at hop
          rcases hop with rfl | rfl | rfl | rfl
          · exact ⟨.inr rfl, rfl, hlow, by simp, by simp⟩
          · exact ⟨.inl rfl, rfl, hlow, by simp, by simp⟩
          · exact ⟨.inr rfl, rfl, hlow, by simp, by simp⟩
          · exact ⟨.inl rfl, rfl, hlow, by simp, by simp⟩
    · obtain ⟨rfl, rfl⟩ := recvAt_eq h1 hrec
      rw [h2] at hE
      injection hE with hE
      injection hE with e1 e2
      subst e1 e2
      exact fun kids q gs w sl t Own W hI => ih kids q gs w sl t Own W true hI
  | @last E R c z O a w0 hr h1 h2 _ ih =>
    intro kids q gs w sl t Own W b hI
    refine inner (fun kids q gs w sl t Own W hI => ?_) (fun c' z' v' outs' hrec hE => ?_) kids hI.acc _ b q gs w sl t Own W rfl hI
    · obtain ⟨j, x, hx, hc⟩ := hI.exp c _ h2
      subst hc
      have hki := hI.kid j x hx
      cases hki with
      | live k1 k2 k3 k4 k5 => exact .inr ⟨x.c, z, h1, j, x, hx, rfl, k1⟩
      | sits v0 z0 outs0 k1 k2 k3 k4 k5 k6 => rw [h2, k3] at k6; cases k6
      | gone g0 k1 k2 k3 k4 =>
        left
        obtain ⟨off, hm⟩ : ∃ off, gs[0]? = some { a with status := .running, offers := off } := by
          rcases hI.main with ⟨_, k⟩ | ⟨k, _⟩
          · exact k
          · cases k
        have hlt : 0 < gs.size := (Array.getElem?_eq_some_iff.1 hm).1
        obtain ⟨s, r, tm, ho⟩ : ShutC w x.c := by
          rcases k4 with ⟨_, k, _⟩ | ⟨k, _⟩
          · exact k
          · rw [h2] at k; cases k
        have hp : partners (gs.setIfInBounds 0 ph) x.c true = [] := stand_nil fun k y _ hy => by
          refine hI.noSend (c := x.c) (fun i z hz hzc hz1 => ?_) k y hy
          have := hI.ch i j z x hz hx hzc
          subst this
          rw [hx] at hz
          injection hz with hz
          subst hz
          omega
        have hrunT := crowd_recv_closed (P := P) (sl := sl) (i := 0) hm (h1 w hI.keep0) ho hp
        rw [ofE_nil, finishComm_recv] at hrunT
        refine ⟨_, _, hrunT, ih kids q _ w sl _ Own W true ?_⟩
        have := hI.last hx h2 k1 (v := recvd true z false) (gs' := gs.setIfInBounds 0 (Conc.served a (recvd true z false))) (by simp) (by simp [hlt]) (fun i hi => Array.getElem?_setIfInBounds_ne (Ne.symm hi)) (y := { g := 0, fn := a.frame.fn, pos := a.frame.place, act := .recvClosed x.c }) ⟨rfl, rfl⟩
        simpa using this
    · obtain ⟨rfl, rfl⟩ := recvAt_eq h1 hrec
      rw [h2] at hE
      cases hE
  | @stop E O a w0 h1 h2 =>
    intro kids q gs w sl t Own W b hI
    have gone : ∀ (j : Nat) (x : Kid), kids[j]? = some x → ∃ g, gs[n0 + j]? = some g ∧ QuitsIn P (q (n0 + j)) g ∧ AllKnown (n0 + j) t := by
      intro j x hx
      have hki := hI.kid j x hx
      cases hki with
      | live k1 k2 k3 k4 k5 => rw [h1] at k5; cases k5
      | sits v0 z0 outs0 k1 k2 k3 k4 k5 k6 => rw [h1] at k6; cases k6
      | gone g0 k1 k2 k3 k4 =>
        rcases k4 with ⟨k, _⟩ | ⟨_, k⟩
        · rw [h1] at k; cases k
        · exact ⟨g0, k2, k3, k⟩
    have hkid : ∀ i, n0 ≤ i → i < gs.size → ∃ j x, i = n0 + j ∧ kids[j]? = some x := by
      intro i h1 h2
      rw [hI.size] at h2
      exact ⟨i - n0, kids[i - n0]'(by omega), by omega, List.getElem?_eq_getElem (by omega)⟩
    rcases hI.main with ⟨_, off, hm⟩ | ⟨_, c, z, hm, hr, j, x, hx, _, hm2⟩
    · refine fin a gs w sl t q off (h2 w hI.keep0) hm ⟨fun i g hi hg => ?_, hI.above⟩ (hI.reg.tb.toPast (.inl rfl) fun g hg hne => ?_)
      · have hlt : i < gs.size := (Array.getElem?_eq_some_iff.1 hg).1
        by_cases hn : i < n0
        · exact hI.old i g hi hn hg
        · obtain ⟨j, x, rfl, hx⟩ := hkid i (by omega) hlt
          obtain ⟨g0, k1, k2, _⟩ := gone j x hx
          rw [k1] at hg
          injection hg with hg
          subst hg
          rw [hI.reg.tb.hears _ (.inr ⟨by omega, hlt⟩)]
          exact QuitsD.of_quitsIn k2
      · rcases hg with hg | ⟨hg, hlt⟩
        · exact absurd hg hne
        · obtain ⟨j, x, rfl, hx⟩ := hkid g hg hlt
          exact (gone j x hx).choose_spec.2.2
    · have := (hI.kid j x hx).exp (by omega)
      rw [h1] at this
      cases this
end
end Go.Proofs.Ytgeoffpcmkofkaa
