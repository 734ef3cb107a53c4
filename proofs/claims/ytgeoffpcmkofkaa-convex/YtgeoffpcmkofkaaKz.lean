/- Goroutines that send on channels of their own, one that receives: what the machine holds between two steps. -/
import Derived.Test.YtgeoffpcmkofkaaKy
namespace Go.Proofs.Ytgeoffpcmkofkaa
open Go Go.Conc

structure Kid where
  c : Nat
  outs : List Value
  own : Nat → Prop
  g : Goroutine
  w : World
  m : Nat
/-- The first is further on than the second. -/
def KLt (P : Program) (S : Nat → Prop) (y x : Kid) : Prop := x.m = 2 ∧ (y.m < 2 ∨ (y.m = 2 ∧ y.c = x.c ∧ y.outs = x.outs ∧ ∃ w2 es cap s r tm, w2.heap[x.c]? = some (.chan cap #[] false s r tm) ∧ Keeps x.own S x.w w2 ∧ stepG P false x.g w2 = .go y.g y.w es ∧ (∀ e ∈ es, EvW (Ytgeoffpcmkofkaa.own x.own w2 y.w) S e) ∧ y.own = Ytgeoffpcmkofkaa.own x.own w2 y.w))
section
variable {P : Program} {S : Nat → Prop}
theorem kid_acc2 {c : Nat} {outs : List Value} {O : Nat → Prop} {g : Goroutine} {w : World} (h : KT P S c outs O g w) : Acc (KLt P S) ⟨c, outs, O, g, w, 2⟩ := by
  have done : ∀ y : Kid, y.m < 2 → Acc (KLt P S) y := fun y hy => .intro y fun z hz => absurd hz.1 (by omega)
  induction h with
  | own hr h1 h2 ih =>
    refine .intro _ fun y hy => ?_
    obtain ⟨_, hy | ⟨e1, e2, e3, w2, es, cap, s, r, tm, k1, k2, k3, k4, k5⟩⟩ := hy
    · exact done y hy
    · obtain ⟨yc, yo, yw, yg, yW, ym⟩ := y
      simp only at e1 e2 e3 k1 k2 k3 k4 k5
      subst e1 e2 e3 k5
      exact ih w2 yg yW es k2 k3
  | send hr h1 h2 ih =>
    refine .intro _ fun y hy => ?_
    obtain ⟨_, hy | ⟨e1, e2, e3, w2, es, cap, s, r, tm, k1, k2, k3, k4, k5⟩⟩ := hy
    · exact done y hy
    · rw [h1 w2 k2] at k3
      cases k3
  | shut hr _ h1 h2 =>
    refine .intro _ fun y hy => ?_
    obtain ⟨_, hy | ⟨e1, e2, e3, w2, es, cap, s, r, tm, k1, k2, k3, k4, k5⟩⟩ := hy
    · exact done y hy
    · rw [h1 w2 cap s r tm k2 k1] at k3
      injection k3 with _ _ k3
      subst k3
      have := k4 ⟨.obj c, true, true⟩ (by simp)
      rcases this with ⟨a, e, _⟩ | ⟨m, e, _⟩ | ⟨r, e, _⟩ <;> simp at e
theorem kid_acc (x : Kid) (h : x.m = 2 → KT P S x.c x.outs x.own x.g x.w) : Acc (KLt P S) x := by
  by_cases hm : x.m = 2
  · have := kid_acc2 (h hm)
    obtain ⟨c, o, w, g, W, m⟩ := x
    simp only at hm this
    rw [hm]
    exact this
  · exact .intro x fun z hz => absurd hz.1 hm
end

def LiveG (n0 n g : Nat) : Prop := g = 0 ∨ (n0 ≤ g ∧ g < n)
def Chs (kids : List Kid) (b : Nat) : Prop := ∃ (j : Nat) (x : Kid), kids[j]? = some x ∧ x.c = b
/-- An open channel without room. -/
def OpenC (w : World) (c : Nat) : Prop := ∃ s r tm, w.heap[c]? = some (.chan 0 #[] false s r tm)
def ShutC (w : World) (c : Nat) : Prop := ∃ s r tm, w.heap[c]? = some (.chan 0 #[] true s r tm)
def RecvAt (P : Program) (S O : Nat → Prop) (a : Goroutine) (w0 : World) (c : Nat) (z : Value) : Prop := ∀ w2, Keeps O S w0 w2 → stepG P true a w2 = .comm a #[rcase c z] true (.recv true) w2 #[]
/-- One that was started: how it stands. -/
inductive KI (P : Program) (S : Nat → Prop) (n0 : Nat) (E : Nat → Option (List Value)) (q : Nat → Nat) (gs : Array Goroutine) (w : World) (t : Trace) (j : Nat) (x : Kid) : Prop
  | live : x.m = 2 → gs[n0 + j]? = some x.g → KT P S x.c x.outs x.own x.g x.w → OpenC w x.c → E x.c = some x.outs → KI P S n0 E q gs w t j x
  | sits (v z : Value) (outs : List Value) : x.m = 1 → gs[n0 + j]? = some (parked x.g #[scase x.c v z] .send) → x.outs = v :: outs → KT P S x.c outs x.own (Conc.served x.g undef) x.w → OpenC w x.c → E x.c = some x.outs → KI P S n0 E q gs w t j x
  | gone (g : Goroutine) : x.m = 0 → gs[n0 + j]? = some g → QuitsIn P (q (n0 + j)) g → ((E x.c = some [] ∧ ShutC w x.c ∧ ∃ pc, ShutAt (n0 + j) x.c t pc) ∨ (E x.c = none ∧ AllKnown (n0 + j) t)) → KI P S n0 E q gs w t j x
structure CI (P : Program) (S : Nat → Prop) (n0 : Nat) (E : Nat → Option (List Value)) (R : Option Nat) (O : Nat → Prop) (a : Goroutine) (w0 : World) (kids : List Kid) (q : Nat → Nat) (gs : Array Goroutine) (w : World) (t : Trace) (Own : Nat → Nat → Prop) (W : Nat → World) (b : Bool) : Prop where
  pos : 0 < n0
  size : gs.size = n0 + kids.length
  old : ∀ i g, 0 < i → i < n0 → gs[i]? = some g → QuitsD P (q i) (Deaf t i) g
  above : ∀ j, gs.size ≤ j → Deaf t j = 0
  main : (b = true ∧ ∃ off, gs[0]? = some { a with status := .running, offers := off }) ∨ (b = false ∧ ∃ c z, gs[0]? = some (parked a #[rcase c z] (.recv true)) ∧ RecvAt P S O a w0 c z ∧ ∃ (j : Nat) (x : Kid), kids[j]? = some x ∧ x.c = c ∧ x.m = 2)
  own0 : Own 0 = O
  w0 : W 0 = w0
  kid : ∀ (j : Nat) (x : Kid), kids[j]? = some x → KI P S n0 E q gs w t j x
  kown : ∀ (j : Nat) (x : Kid), kids[j]? = some x → Own (n0 + j) = x.own ∧ (1 ≤ x.m → W (n0 + j) = x.w)
  ch : ∀ (i j : Nat) (x y : Kid), kids[i]? = some x → kids[j]? = some y → x.c = y.c → i = j
  res : ∀ c, R = some c → (∃ tm, w.heap[c]? = some (.chan 0 #[] false 0 0 tm)) ∧ ¬S c ∧ (∀ g, LiveG n0 gs.size g → ¬Own g c) ∧ ¬Chs kids c
  exp : ∀ c o, E c = some o → Chs kids c
  reg : Reg (LiveG n0 gs.size) Own S (Chs kids) W w t
section
variable {P : Program} {S : Nat → Prop} {n0 : Nat} {E E' : Nat → Option (List Value)} {R : Option Nat} {O : Nat → Prop} {a : Goroutine} {w0 : World} {kids : List Kid} {q q' : Nat → Nat} {gs gs' : Array Goroutine} {w w1 : World} {t u : Trace} {Own : Nat → Nat → Prop} {W : Nat → World} {b : Bool}
theorem KI.keep {j : Nat} {x : Kid} (h : KI P S n0 E q gs w t j x) (h1 : gs'[n0 + j]? = gs[n0 + j]?) (h2 : w1.heap[x.c]? = w.heap[x.c]?) (h3 : E' x.c = E x.c) (h4 : q' (n0 + j) = q (n0 + j)) (h5 : ∀ op ∈ u, op.g = n0 + j → op.act.touch? = none) : KI P S n0 E' q' gs' w1 (t ++ u) j x := by
  have op : OpenC w x.c → OpenC w1 x.c := fun ⟨s, r, tm, k⟩ => ⟨s, r, tm, by rw [h2]; exact k⟩
  have sh : ShutC w x.c → ShutC w1 x.c := fun ⟨s, r, tm, k⟩ => ⟨s, r, tm, by rw [h2]; exact k⟩
  cases h with
  | live k1 k2 k3 k4 k5 => exact .live k1 (by rw [h1]; exact k2) k3 (op k4) (by rw [h3]; exact k5)
  | sits v z outs k1 k2 k3 k4 k5 k6 => exact .sits v z outs k1 (by rw [h1]; exact k2) k3 k4 (op k5) (by rw [h3]; exact k6)
  | gone g k1 k2 k3 k4 =>
    refine .gone g k1 (by rw [h1]; exact k2) (by rw [h4]; exact k3) ?_
    rcases k4 with ⟨m1, m2, pc, m3⟩ | ⟨m1, m2⟩
    · exact .inl ⟨by rw [h3]; exact m1, sh m2, pc, m3.app h5⟩
    · exact .inr ⟨by rw [h3]; exact m1, m2.app h5⟩
theorem KI.openC {j : Nat} {x : Kid} (h : KI P S n0 E q gs w t j x) (hm : 1 ≤ x.m) : OpenC w x.c := by
  cases h with
  | live _ _ _ k _ => exact k
  | sits _ _ _ _ _ _ _ k _ => exact k
  | gone _ k => omega
theorem KI.exp {j : Nat} {x : Kid} (h : KI P S n0 E q gs w t j x) (hm : 1 ≤ x.m) : E x.c = some x.outs := by
  cases h with
  | live _ _ _ _ k => exact k
  | sits _ _ _ _ _ _ _ _ k => exact k
  | gone _ k => omega
theorem CI.heap (h : CI P S n0 E R O a w0 kids q gs w t Own W b) (e : w1.heap = w.heap) (eo : w1.os = w.os) (eu : w1.output = w.output) : CI P S n0 E R O a w0 kids q gs w1 t Own W b :=
  { h with
    kid := fun j x hx => by
      have := (h.kid j x hx).keep (gs' := gs) (w1 := w1) (E' := E) (q' := q) (u := #[]) rfl (by rw [e]) rfl rfl (by simp)
      simpa using this
    res := fun c hc => by rw [e]; exact h.res c hc
    reg := h.reg.heap e eo eu }
theorem CI.liveK (h : CI P S n0 E R O a w0 kids q gs w t Own W b) {j : Nat} {x : Kid} (hx : kids[j]? = some x) : LiveG n0 gs.size (n0 + j) := by
  have : j < kids.length := (List.getElem?_eq_some_iff.1 hx).1
  exact .inr ⟨by omega, by rw [h.size]; omega⟩
theorem CI.lowC (h : CI P S n0 E R O a w0 kids q gs w t Own W b) {j : Nat} {x : Kid} (hx : kids[j]? = some x) : x.c < w.heap.size := h.reg.cLow x.c ⟨j, x, hx, rfl⟩
/-- Who can wake by a step that leaves open channels open? Nobody. -/
theorem CI.woken (h : CI P S n0 E R O a w0 kids q gs w t Own W b) (ho : ∀ (j : Nat) (x : Kid), kids[j]? = some x → 1 ≤ x.m → OpenC w1 x.c) (g g' : Goroutine) : ∀ (i : Nat) (x : Goroutine), gs[i]? = some x → Conc.woken P g g' w1 x = x := by
  intro i x hx
  have hlt : i < gs.size := (Array.getElem?_eq_some_iff.1 hx).1
  rcases Nat.eq_zero_or_pos i with rfl | hpos
  · rcases h.main with ⟨_, off, hm⟩ | ⟨_, c, z, hm, _, j, y, hy, hc, hm2⟩
    · rw [hm] at hx; injection hx with hx; subst hx; exact woken_run rfl
    · rw [hm] at hx; injection hx with hx; subst hx
      obtain ⟨s, r, tm, k⟩ := ho j y hy (by omega)
      rw [hc] at k
      exact woken_recv_open _ _ k
  · by_cases hn : i < n0
    · exact woken_quitsD (h.old i x hpos hn hx)
    · obtain ⟨j, rfl⟩ : ∃ j, i = n0 + j := ⟨i - n0, by omega⟩
      have hj : j < kids.length := by rw [h.size] at hlt; omega
      have hk := h.kid j kids[j] (List.getElem?_eq_getElem hj)
      cases hk with
      | live k1 k2 k3 k4 k5 => rw [k2] at hx; injection hx with hx; subst hx; exact woken_run k3.running
      | sits v z outs k1 k2 k3 k4 k5 k6 =>
        rw [k2] at hx; injection hx with hx; subst hx
        obtain ⟨s, r, tm, k⟩ := ho j _ (List.getElem?_eq_getElem hj) (by omega)
        exact woken_send_open _ _ k
      | gone g k1 k2 k3 k4 => rw [k2] at hx; injection hx with hx; subst hx; exact woken_quits k3
theorem set_get (gs : Array Goroutine) (f : Goroutine → Goroutine) (k : Nat) (g : Goroutine) (hf : ∀ (i : Nat) (x : Goroutine), i ≠ k → gs[i]? = some x → f x = x) : ∀ i, i ≠ k → ((gs.map f).setIfInBounds k g)[i]? = gs[i]? := by
  intro i hi
  rw [Array.getElem?_setIfInBounds_ne (Ne.symm hi), Array.getElem?_map]
  cases hx : gs[i]? with
  | none => rfl
  | some x => rw [Option.map_some, hf i x hi hx]
theorem set_at (gs : Array Goroutine) (f : Goroutine → Goroutine) {k : Nat} (g : Goroutine) (hk : k < gs.size) : ((gs.map f).setIfInBounds k g)[k]? = some g := by simp [hk]
theorem CI.awake (h : CI P S n0 E R O a w0 kids q gs w t Own W b) : ∀ g ∈ gs, Conc.awake g := by
  intro g hg
  obtain ⟨i, hi, rfl⟩ := Array.mem_iff_getElem.1 hg
  have hx := Array.getElem?_eq_getElem hi
  rcases Nat.eq_zero_or_pos i with rfl | hpos
  · rcases h.main with ⟨_, off, hm⟩ | ⟨_, c, z, hm, _⟩
    · rw [hm] at hx; injection hx with hx; rw [← hx]; exact awake_of (.inl rfl)
    · rw [hm] at hx; injection hx with hx; rw [← hx]; exact awake_of (.inr (.inl rfl))
  · by_cases hn : i < n0
    · exact awake_of ((h.old i _ hpos hn hx).status.elim .inl fun x => .inr (.inr x))
    · obtain ⟨j, rfl⟩ : ∃ j, i = n0 + j := ⟨i - n0, by omega⟩
      have hj : j < kids.length := by rw [h.size] at hi; omega
      have hk := h.kid j kids[j] (List.getElem?_eq_getElem hj)
      cases hk with
      | live k1 k2 k3 k4 k5 => rw [k2] at hx; injection hx with hx; rw [← hx]; exact awake_of (.inl k3.running)
      | sits v z outs k1 k2 k3 k4 k5 k6 => rw [k2] at hx; injection hx with hx; rw [← hx]; exact awake_of (.inr (.inl rfl))
      | gone g k1 k2 k3 k4 => rw [k2] at hx; injection hx with hx; rw [← hx]; exact awake_of (k3.status.elim .inl fun x => .inr (.inr x))
theorem CI.some1 (h : CI P S n0 E R O a w0 kids q gs w t Own W b) : ∃ (i : Nat) (g : Goroutine), gs[i]? = some g ∧ g.status = .running := by
  rcases h.main with ⟨_, off, hm⟩ | ⟨_, c, z, hm, _, j, x, hx, _, hm2⟩
  · exact ⟨0, _, hm, rfl⟩
  · have hk := h.kid j x hx
    cases hk with
    | live k1 k2 k3 k4 k5 => exact ⟨_, _, k2, k3.running⟩
    | sits v z outs k1 => omega
    | gone g k1 => omega
/-- Who offers to send on a channel? Only one that sits there. -/
theorem CI.noSend (h : CI P S n0 E R O a w0 kids q gs w t Own W b) {c : Nat} (hc : ∀ (j : Nat) (x : Kid), kids[j]? = some x → x.c = c → x.m ≠ 1) : ∀ (i : Nat) (x : Goroutine), gs[i]? = some x → offersAt x c true = [] := by
  intro i x hx
  have hlt : i < gs.size := (Array.getElem?_eq_some_iff.1 hx).1
  rcases Nat.eq_zero_or_pos i with rfl | hpos
  · rcases h.main with ⟨_, off, hm⟩ | ⟨_, c, z, hm, _⟩
    · rw [hm] at hx; injection hx with hx; rw [← hx]; exact offersAt_of_not_blocked (by simp) _ _
    · rw [hm] at hx; injection hx with hx; rw [← hx]; exact offersAt_parked_recv' _ _ _ _ _
  · by_cases hn : i < n0
    · exact offersAt_of_not_blocked (by rcases (h.old i x hpos hn hx).status with e | e <;> rw [e] <;> simp) _ _
    · obtain ⟨j, rfl⟩ : ∃ j, i = n0 + j := ⟨i - n0, by omega⟩
      have hj : j < kids.length := by rw [h.size] at hlt; omega
      have hg := List.getElem?_eq_getElem hj
      have hk := h.kid j kids[j] hg
      cases hk with
      | live k1 k2 k3 k4 k5 => rw [k2] at hx; injection hx with hx; rw [← hx]; exact offersAt_of_not_blocked (by rw [k3.running]; simp) _ _
      | sits v z outs k1 k2 k3 k4 k5 k6 =>
        rw [k2] at hx; injection hx with hx; rw [← hx, offersAt_parked_send]
        rw [if_neg]
        intro e
        exact hc j _ hg e k1
      | gone g k1 k2 k3 k4 => rw [k2] at hx; injection hx with hx; rw [← hx]; exact offersAt_of_not_blocked (by rcases k3.status with e | e <;> rw [e] <;> simp) _ _
/-- Who offers to receive? Only the main one, where it waits. -/
theorem CI.noRecv (h : CI P S n0 E R O a w0 kids q gs w t Own W b) {c : Nat} (hc : ∀ z, gs[0]? ≠ some (parked a #[rcase c z] (.recv true))) : ∀ (i : Nat) (x : Goroutine), gs[i]? = some x → offersAt x c false = [] := by
  intro i x hx
  have hlt : i < gs.size := (Array.getElem?_eq_some_iff.1 hx).1
  rcases Nat.eq_zero_or_pos i with rfl | hpos
  · rcases h.main with ⟨_, off, hm⟩ | ⟨_, c', z, hm, _⟩
    · rw [hm] at hx; injection hx with hx; rw [← hx]; exact offersAt_of_not_blocked (by simp) _ _
    · have := hx
      rw [hm] at hx; injection hx with hx; rw [← hx, offersAt_parked_recv]
      rw [if_neg]
      rintro rfl
      exact hc z hm
  · by_cases hn : i < n0
    · exact offersAt_of_not_blocked (by rcases (h.old i x hpos hn hx).status with e | e <;> rw [e] <;> simp) _ _
    · obtain ⟨j, rfl⟩ : ∃ j, i = n0 + j := ⟨i - n0, by omega⟩
      have hj : j < kids.length := by rw [h.size] at hlt; omega
      have hg := List.getElem?_eq_getElem hj
      have hk := h.kid j kids[j] hg
      cases hk with
      | live k1 k2 k3 k4 k5 => rw [k2] at hx; injection hx with hx; rw [← hx]; exact offersAt_of_not_blocked (by rw [k3.running]; simp) _ _
      | sits v z outs k1 k2 k3 k4 k5 k6 => rw [k2] at hx; injection hx with hx; rw [← hx]; exact offersAt_parked_send' _ _ _ _ _ _
      | gone g k1 k2 k3 k4 => rw [k2] at hx; injection hx with hx; rw [← hx]; exact offersAt_of_not_blocked (by rcases k3.status with e | e <;> rw [e] <;> simp) _ _
theorem stand_nil {c : Nat} {snd : Bool} {i : Nat} (h : ∀ (k : Nat) (x : Goroutine), k ≠ i → gs[k]? = some x → offersAt x c snd = []) : partners (gs.setIfInBounds i ph) c snd = [] := by
  refine partners_nil fun k x hx => ?_
  rcases getElem?_stand gs i k x hx with ⟨_, rfl⟩ | ⟨hk, hx⟩
  · exact offersAt_ph _ _
  · exact h k x hk hx
theorem deaf_same {g : Nat} (hu : ∀ op ∈ u, op.act ≠ .mark .disable ∧ op.act ≠ .mark .enable) : Deaf (t ++ u) g = Deaf t g := by
  have := deaf_still (g := g) u.toList t fun op hop => hu op (by simpa using hop)
  have e : t ++ u.toList.toArray = t ++ u := by simp
  rwa [e] at this
theorem evW_calm {O S : Nat → Prop} {e : Event} (h : EvW O S e) : MemAct.ofEvent e ≠ .mark .disable ∧ MemAct.ofEvent e ≠ .mark .enable := by
  rcases h with ⟨a, ha, _⟩ | ⟨m, rfl, hm⟩ | ⟨r, rfl, _⟩
  · obtain ⟨loc, wr, sy⟩ := e
    simp only at ha
    subst ha
    simp [MemAct.ofEvent]
  · rcases hm with rfl | ⟨f, rfl⟩ <;> simp [MemAct.ofEvent]
  · simp [MemAct.ofEvent]
end
end Go.Proofs.Ytgeoffpcmkofkaa
