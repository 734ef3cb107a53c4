/- The machine with one that starts others and receives from them comes to the end, whatever the tape. -/
import Derived.Test.YtgeoffpcmkofkaaLb
namespace Go.Proofs.Ytgeoffpcmkofkaa
open Go Go.Conc
open Go.ConcN (sumTo)

section
variable {P : Program} {S : Nat → Prop} {n0 : Nat} {E : Nat → Option (List Value)} {R : Option Nat} {O : Nat → Prop} {a : Goroutine} {w0 : World} {Post : Value → World → Prop}
def Fine (P : Program) (Post : Value → World → Prop) (m : Machine) (t : Trace) : Prop := ∃ N last o w' t', runNT P (N + 1) m t = (.ended o w', t') ∧ runN P N m = .next last ∧ step P last = .ended o w' ∧ Conc.Good P Post last o w' t'
theorem Fine.step {m m' : Machine} {t ops : Trace} (h : stepT P m = (.next m', ops)) (k : Fine P Post m' (t ++ ops)) : Fine P Post m t := by
  obtain ⟨n, last, o, w, t', h1, h2, h3, h4⟩ := k
  exact ⟨n + 1, last, o, w, t', by rw [runNT_succ_next h]; exact h1, by rw [runN_succ_next h]; exact h2, h3, h4⟩
section
variable {kids : List Kid} {q : Nat → Nat} {gs : Array Goroutine} {w : World} {t : Trace} {Own : Nat → Nat → Prop} {W : Nat → World} {b : Bool}
theorem CI.keep0 (h : CI P S n0 E R O a w0 kids q gs w t Own W b) : Keeps O S w0 w := by
  have := h.reg.keeps 0 (.inl rfl)
  rwa [h.own0, h.w0] at this
theorem CI.keepK (h : CI P S n0 E R O a w0 kids q gs w t Own W b) {j : Nat} {x : Kid} (hx : kids[j]? = some x) (hm : 1 ≤ x.m) : Keeps x.own S x.w w := by
  have := h.reg.keeps (n0 + j) (h.liveK hx)
  rwa [(h.kown j x hx).1, (h.kown j x hx).2 hm] at this
theorem CI.noRecvK (h : CI P S n0 E R O a w0 kids q gs w t Own W b) (c : Nat) : ∀ (i : Nat) (x : Goroutine), i ≠ 0 → gs[i]? = some x → offersAt x c false = [] := by
  intro i x h0 hx
  have hlt : i < gs.size := (Array.getElem?_eq_some_iff.1 hx).1
  by_cases hn : i < n0
  · exact offersAt_of_not_blocked (by rcases (h.old i x (by omega) hn hx).status with e | e <;> rw [e] <;> simp) _ _
  · obtain ⟨j, rfl⟩ : ∃ j, i = n0 + j := ⟨i - n0, by omega⟩
    have hj : j < kids.length := by rw [h.size] at hlt; omega
    have hk := h.kid j kids[j] (List.getElem?_eq_getElem hj)
    cases hk with
    | live k1 k2 k3 k4 k5 => rw [k2] at hx; injection hx with hx; rw [← hx]; exact offersAt_of_not_blocked (by rw [k3.running]; simp) _ _
    | sits v z outs k1 k2 k3 k4 k5 k6 => rw [k2] at hx; injection hx with hx; rw [← hx]; exact offersAt_parked_send' _ _ _ _ _ _
    | gone g k1 k2 k3 k4 => rw [k2] at hx; injection hx with hx; rw [← hx]; exact offersAt_of_not_blocked (by rcases k3.status with e | e <;> rw [e] <;> simp) _ _
theorem CI.noSendK (h : CI P S n0 E R O a w0 kids q gs w t Own W b) {j : Nat} {y : Kid} (hy : kids[j]? = some y) : ∀ (i : Nat) (x : Goroutine), i ≠ n0 + j → gs[i]? = some x → offersAt x y.c true = [] := by
  intro i x h0 hx
  have hlt : i < gs.size := (Array.getElem?_eq_some_iff.1 hx).1
  rcases Nat.eq_zero_or_pos i with rfl | hpos
  · rcases h.main with ⟨_, off, hm⟩ | ⟨_, c, z, hm, _⟩
    · rw [hm] at hx; injection hx with hx; rw [← hx]; exact offersAt_of_not_blocked (by simp) _ _
    · rw [hm] at hx; injection hx with hx; rw [← hx]; exact offersAt_parked_recv' _ _ _ _ _
  by_cases hn : i < n0
  · exact offersAt_of_not_blocked (by rcases (h.old i x (by omega) hn hx).status with e | e <;> rw [e] <;> simp) _ _
  · obtain ⟨k, rfl⟩ : ∃ k, i = n0 + k := ⟨i - n0, by omega⟩
    have hj : k < kids.length := by rw [h.size] at hlt; omega
    have hg := List.getElem?_eq_getElem hj
    have hk := h.kid k kids[k] hg
    cases hk with
    | live k1 k2 k3 k4 k5 => rw [k2] at hx; injection hx with hx; rw [← hx]; exact offersAt_of_not_blocked (by rw [k3.running]; simp) _ _
    | sits v z outs k1 k2 k3 k4 k5 k6 =>
      rw [k2] at hx; injection hx with hx; rw [← hx, offersAt_parked_send]
      rw [if_neg]
      intro e
      exact h0 (by rw [h.ch k j _ y hg hy e])
    | gone g k1 k2 k3 k4 => rw [k2] at hx; injection hx with hx; rw [← hx]; exact offersAt_of_not_blocked (by rcases k3.status with e | e <;> rw [e] <;> simp) _ _
theorem CI.acc (h : CI P S n0 E R O a w0 kids q gs w t Own W b) : Acc (One (KLt P S)) kids := by
  refine acc_one fun x hx => kid_acc x fun hm => ?_
  obtain ⟨j, hj⟩ := List.getElem?_of_mem hx
  have hk := h.kid j x hj
  cases hk with
  | live k1 k2 k3 k4 k5 => exact k3
  | sits _ _ _ k1 => omega
  | gone _ k1 => omega
end
theorem one_set {R : Kid → Kid → Prop} {x y : Kid} (hr : R y x) : ∀ {kids : List Kid} {j : Nat}, kids[j]? = some x → One R (kids.set j y) kids
  | [], j, h => by simp at h
  | k :: l, 0, h => by
    simp only [List.getElem?_cons_zero, Option.some.injEq] at h
    subst h
    exact .here hr
  | k :: l, j + 1, h => .there (one_set hr (by simpa using h))
theorem sum_put {q : Nat → Nat} {n i k : Nat} (hi : i < n) (hq : q i = k + 1) : sumTo n (put q i k) < sumTo n q := by
  have e : put q i k = Go.ConcN.upd q i k := by
    funext m
    unfold put Go.ConcN.upd
    rfl
  have := Go.ConcN.sumTo_upd q k id hi
  rw [e]
  have e1 : ∀ f : Nat → Nat, (fun k => id (f k)) = f := fun f => rfl
  simp only [id_eq, hq] at this
  have h2 : ∀ f : Nat → Nat, sumTo n (fun k => f k) = sumTo n f := fun f => rfl
  simp only [h2] at this
  omega
theorem inner
    (main : ∀ (kids : List Kid) (q : Nat → Nat) (gs : Array Goroutine) (w : World) (sl : Option (Nat × Nat)) (t : Trace) (Own : Nat → Nat → Prop) (W : Nat → World), CI P S n0 E R O a w0 kids q gs w t Own W true →
      (∃ m' ops, runT P (crowd gs w sl) 0 = (.next m', ops) ∧ Fine P Post m' (t ++ ops)) ∨ ∃ c z, RecvAt P S O a w0 c z ∧ ∃ (j : Nat) (x : Kid), kids[j]? = some x ∧ x.c = c ∧ x.m = 2)
    (meet : ∀ c z v outs, RecvAt P S O a w0 c z → E c = some (v :: outs) → ∀ (kids : List Kid) (q : Nat → Nat) (gs : Array Goroutine) (w : World) (sl : Option (Nat × Nat)) (t : Trace) (Own : Nat → Nat → Prop) (W : Nat → World),
      CI P S n0 (put E c (some outs)) R O (Conc.served a (recvd true v true)) w0 kids q gs w t Own W true → Fine P Post (crowd gs w sl) t) :
    ∀ kids, Acc (One (KLt P S)) kids → ∀ (M : Nat) (b : Bool) (q : Nat → Nat) (gs : Array Goroutine) (w : World) (sl : Option (Nat × Nat)) (t : Trace) (Own : Nat → Nat → Prop) (W : Nat → World), 2 * sumTo gs.size q + b.toNat = M → CI P S n0 E R O a w0 kids q gs w t Own W b → Fine P Post (crowd gs w sl) t := by
  intro kids hacc
  induction hacc with
  | intro kids _ ihk =>
    intro M
    induction M using Nat.strongRecOn with
    | ind M ih =>
      intro b q gs w sl t Own W hM hI
      obtain ⟨i, g, d, sl', hi, hg, hst⟩ := crowd_pick (P := P) (w := w) (sl := sl) hI.awake hI.some1
      replace hI := hI.heap (w1 := w.at d) rfl rfl rfl
      generalize w.at d = w' at hI hst
      have hpos0 := hI.pos
      rcases Nat.eq_zero_or_pos i with rfl | hpos
      · -- the main one
        rcases hI.main with ⟨rfl, off, hm⟩ | ⟨rfl, c, z, hm, _⟩
        · rcases main kids q gs w' sl' t Own W hI with ⟨m', ops, hr, hf⟩ | ⟨c, z, hr, j, x, hx, hc, hm2⟩
          · exact .step (hst.trans hr) hf
          · have hs : stepG P (0 == 0) { a with status := .running, offers := off } w' = .comm a #[rcase c z] true (.recv true) w' #[] := hr w' hI.keep0
            obtain ⟨s, r, tm, ho⟩ := (hI.kid j x hx).openC (by omega)
            rw [hc] at ho
            have hno : partners (gs.setIfInBounds 0 ph) c true = [] := stand_nil fun k y hk hy => by
              refine hI.noSend (c := c) (fun i z hz hzc hz1 => ?_) k y hy
              have := hI.ch i j z x hz hx (by rw [hzc, hc])
              subst this
              rw [hx] at hz
              injection hz with hz
              subst hz
              omega
            have hw := crowd_waits (P := P) (sl := sl') (i := 0) hm hs (by
              intro cc hcc
              have : cc = rcase c z := by simpa using hcc
              rw [this]
              exact ways_recv_none ho hno)
            rw [ofE_nil] at hw
            refine .step (hst.trans hw) (ih (2 * sumTo gs.size q) (by rw [← hM]; simp) false q _ w' sl' _ Own W (by simp) ?_)
            refine hI.mainTo (by simp) (fun k hk => Array.getElem?_setIfInBounds_ne (Ne.symm hk)) (fun _ _ _ => rfl) (by simp) (.inr ⟨rfl, c, z, ?_, hr, j, x, hx, hc, hm2⟩) hI.own0 hI.w0 (fun _ _ => ⟨rfl, rfl⟩) hI.res (by simpa using hI.reg)
            have : 0 < gs.size := (Array.getElem?_eq_some_iff.1 hm).1
            simp [this]
        · rw [hm] at hi
          injection hi with hi
          rw [← hi] at hg
          cases hg
      · have hi0 : (i == 0) = false := by simp; omega
        have hilt : i < gs.size := (Array.getElem?_eq_some_iff.1 hi).1
        by_cases hn : i < n0
        · -- one that leaves
          have hq := hI.old i g hpos hn hi
          cases hqi : q i with
          | zero => rw [hqi] at hq; rw [hq.1] at hg; cases hg
          | succ k =>
            rw [hqi] at hq
            rcases hq with ⟨hf, _⟩ | ⟨_, g', es, hmu, hstp, hq'⟩
            · rw [hf] at hg; cases hg
            have hrunT := runT_crowd_go (P := P) (sl := sl') (i := i) hi (by rw [hi0]; exact hstp w')
            refine .step (hst.trans hrunT) (ih _ ?_ b (put q i k) _ w' sl' _ Own W rfl (hI.slipOld hpos hn hmu hq' _ _))
            rw [← hM]
            have := sum_put (n := gs.size) hilt hqi
            simp only [Array.size_setIfInBounds, Array.size_map]
            omega
        · obtain ⟨j, rfl⟩ : ∃ j, i = n0 + j := ⟨i - n0, by omega⟩
          have hj : j < kids.length := by rw [hI.size] at hilt; omega
          obtain ⟨x, hx⟩ : ∃ x, kids[j]? = some x := ⟨kids[j], List.getElem?_eq_getElem hj⟩
          have hki := hI.kid j x hx
          cases hki with
          | live k1 k2 k3 k4 k5 =>
            have e : g = x.g := by rw [k2] at hi; injection hi with hi; exact hi.symm
            subst e
            have hkeep := hI.keepK hx (by omega)
            obtain ⟨xo, hxo⟩ : ∃ xo, x.outs = xo := ⟨_, rfl⟩
            rw [hxo] at k3
            cases k3 with
            | own hr h1 h2 =>
              obtain ⟨g1, w1, es, hs, hd, he⟩ := h1 w' hkeep
              have hrunT := runT_crowd_go (P := P) (sl := sl') (i := n0 + j) hi (by rw [hi0]; exact hs)
              have hkt := h2 w' g1 w1 es hkeep hs
              rw [← hxo] at hkt
              have hdL : DidO (Own (n0 + j)) w' w1 := by rw [(hI.kown j x hx).1]; exact hd
              have hch := hI.chan_did (hI.liveK hx) hdL
              have hall := hI.woken (w1 := w1) (fun i z hz hm => ((hI.kid i z hz).openC hm).of (hch i z hz)) x.g g1
              refine .step (hst.trans hrunT) (ihk _ (one_set (y := { x with own := own x.own w' w1, g := g1, w := w1 }) ?_ hx) _ b q _ w1 sl' _ _ _ rfl (hI.kidOwn hx k1 hkt hd he _ _ _ fun i z _ hz => hall i z hz))
              obtain ⟨s, r, tm, ho⟩ := k4
              exact ⟨k1, .inr ⟨k1, rfl, rfl, w', es, 0, s, r, tm, ho, hkeep, hs, he, rfl⟩⟩
            | @send v z outs _ _ _ hr h1 h2 =>
              have hs : stepG P (n0 + j == 0) x.g w' = .comm x.g #[scase x.c v z] true .send w' #[] := by rw [hi0]; exact h1 w' hkeep
              obtain ⟨s, r, tm, ho⟩ := id k4
              by_cases hw : ∃ z, gs[0]? = some (parked a #[rcase x.c z] (.recv true))
              · obtain ⟨z0, hw⟩ := hw
                have hrecv : RecvAt P S O a w0 x.c z0 := by
                  rcases hI.main with ⟨_, off, hm⟩ | ⟨_, c, z, hm, hr, _⟩
                  · rw [hm] at hw
                    injection hw with hw
                    have := congrArg Goroutine.status hw
                    cases this
                  · rw [hm] at hw
                    injection hw with hw
                    have := congrArg Goroutine.offers hw
                    simp only [parked, Option.some.injEq, Prod.mk.injEq, rcase] at this
                    have h3 := this.1
                    simp only [Array.mk.injEq, List.cons.injEq, CommCase.mk.injEq, Value.chan.injEq, Option.some.injEq] at h3
                    obtain ⟨⟨rfl, _, rfl⟩, _⟩ := h3
                    exact hr
                have hp : partners (gs.setIfInBounds (n0 + j) ph) x.c false = [(0, 0)] := by
                  have := partners_one (gs := gs.setIfInBounds (n0 + j) ph) (r := x.c) (send := false) (j := 0) (stand_get (i := n0 + j) (by omega) hw) fun k y hk hy => by
                    rcases getElem?_stand gs (n0 + j) k y hy with ⟨_, rfl⟩ | ⟨_, hy⟩
                    · exact offersAt_ph _ _
                    · exact hI.noRecvK x.c k y hk hy
                  rw [this, offersAt_parked_recv, if_pos rfl]
                  rfl
                have hrunT := crowd_send_meets (P := P) (sl := sl') (i := n0 + j) (j := 0) hi hs ho (by omega) hw hp
                rw [ofE_nil, finishComm_send, finishComm_recv] at hrunT
                refine .step (hst.trans hrunT) (meet x.c z0 v outs hrecv (by rw [k5, hxo]) (kids.set j { x with outs := outs, g := Conc.served x.g undef, m := 2 }) q _ _ sl' _ Own W ?_)
                have h0lt : 0 < gs.size := (Array.getElem?_eq_some_iff.1 hw).1
                refine hI.meet hx (by omega) h2 (w1 := w'.setChan x.c 0 #[] false (s + 1) (r + 1) tm) rfl rfl rfl (by simp) ?_ ?_ (fun i h1 h2 => ?_) fun op hop => ?_
                · rw [Array.getElem?_setIfInBounds_ne (by omega)]
                  simp [h0lt]
                · simp [hilt]
                · rw [Array.getElem?_setIfInBounds_ne (Ne.symm h2), Array.getElem?_setIfInBounds_ne (Ne.symm h1)]
                · have hlow := hI.lowC hx
                  simp only [Array.empty_append, List.mem_toArray, List.mem_cons, List.not_mem_nil, or_false] at hop
                  rcases hop with rfl | rfl | rfl | rfl
                  · exact ⟨.inr rfl, rfl, hlow, by simp, by simp⟩
                  · exact ⟨.inl rfl, rfl, hlow, by simp, by simp⟩
                  · exact ⟨.inr rfl, rfl, hlow, by simp, by simp⟩
                  · exact ⟨.inl rfl, rfl, hlow, by simp, by simp⟩
              · have hno : ∀ z, gs[0]? ≠ some (parked a #[rcase x.c z] (.recv true)) := fun z hz => hw ⟨z, hz⟩
                have hp : partners (gs.setIfInBounds (n0 + j) ph) x.c false = [] := stand_nil fun k y _ hy => hI.noRecv hno k y hy
                have hrunT := crowd_waits (P := P) (sl := sl') (i := n0 + j) hi hs (by
                  intro cc hcc
                  have : cc = scase x.c v z := by simpa using hcc
                  rw [this]
                  exact ways_send_none ho (Nat.le_refl _) hp)
                rw [ofE_nil] at hrunT
                have hsit := hI.kidSit hx k1 (z := z) hxo h2 hno
                refine .step (hst.trans hrunT) (ihk _ (one_set (y := { x with m := 1 }) ⟨k1, .inl (by simp)⟩ hx) _ b q _ w' sl' _ Own W rfl ?_)
                simpa using hsit
            | @shut _ _ g1 _ n hr hwk h1 h2 =>
              obtain ⟨s, r, tm, ho⟩ := id k4
              have hs := h1 w' 0 s r tm hkeep ho
              have hrunT := runT_crowd_go (P := P) (sl := sl') (i := n0 + j) hi (by rw [hi0]; exact hs)
              obtain ⟨b', hc⟩ := hI.kidShut hx k1 hxo h2 s r tm x.g.frame.fn x.g.frame.place hwk
              exact .step (hst.trans hrunT) (ihk _ (one_set (y := { x with m := 0 }) ⟨k1, .inl (by simp)⟩ hx) _ b' _ _ _ sl' _ Own W rfl hc)
          | sits v z outs k1 k2 k3 k4 k5 k6 =>
            rw [k2] at hi
            injection hi with hi
            rw [← hi] at hg
            cases hg
          | gone g0 k1 k2 k3 k4 =>
            have e : g0 = g := by rw [k2] at hi; injection hi
            subst e
            cases hqi : q (n0 + j) with
            | zero => rw [hqi] at k3; rw [show g0.status = .finished from k3] at hg; cases hg
            | succ k =>
              rw [hqi] at k3
              rcases k3 with hf | ⟨_, g', hstp, hq'⟩
              · rw [hf] at hg; cases hg
              have hrunT := runT_crowd_go (P := P) (sl := sl') (i := n0 + j) hi (by rw [hi0]; exact hstp w')
              refine .step (hst.trans hrunT) (ih _ ?_ b (put q (n0 + j) k) _ w' sl' _ Own W rfl (hI.slipGone hx k1 hq' _ _))
              rw [← hM]
              have := sum_put (n := gs.size) hilt hqi
              simp only [Array.size_setIfInBounds, Array.size_map]
              omega
end
end Go.Proofs.Ytgeoffpcmkofkaa
