/- What a step changes, and what it leaves. -/
import Derived.Test.YtgeoffpcmkofkaaKz
namespace Go.Proofs.Ytgeoffpcmkofkaa
open Go Go.Conc

section
variable {P : Program} {S : Nat → Prop} {n0 : Nat} {E E' : Nat → Option (List Value)} {R R' : Option Nat} {O O' : Nat → Prop} {a a' : Goroutine} {w0 w0' : World} {kids : List Kid} {q q' : Nat → Nat} {gs gs' : Array Goroutine} {w w1 : World} {t u : Trace} {Own Own' : Nat → Nat → Prop} {W W' : Nat → World} {b b' : Bool}
theorem chs_set {j : Nat} {x y : Kid} (hx : kids[j]? = some x) (hc : y.c = x.c) : Chs (kids.set j y) = Chs kids := by
  have hj : j < kids.length := (List.getElem?_eq_some_iff.1 hx).1
  funext b
  refine propext ⟨fun ⟨i, z, hz, hb⟩ => ?_, fun ⟨i, z, hz, hb⟩ => ?_⟩
  · by_cases e : j = i
    · subst e
      rw [List.getElem?_set_self hj] at hz
      injection hz with hz
      subst hz
      exact ⟨j, x, hx, by rw [← hc]; exact hb⟩
    · rw [List.getElem?_set_ne e] at hz
      exact ⟨i, z, hz, hb⟩
  · by_cases e : j = i
    · subst e
      rw [hx] at hz
      injection hz with hz
      subst hz
      exact ⟨j, y, List.getElem?_set_self hj, by rw [hc]; exact hb⟩
    · exact ⟨i, z, by rw [List.getElem?_set_ne e]; exact hz, hb⟩
theorem CI.to (h : CI P S n0 E R O a w0 kids q gs w t Own W b) {j : Nat} {x y : Kid} (hx : kids[j]? = some x) (hc : y.c = x.c) (hsz : gs'.size = gs.size) (hgs : ∀ i, i ≠ 0 → i ≠ n0 + j → gs'[i]? = gs[i]?)
    (hheap : ∀ (i : Nat) (z : Kid), kids[i]? = some z → i ≠ j → w1.heap[z.c]? = w.heap[z.c]?) (hu : ∀ op ∈ u, (op.g = 0 ∨ op.g = n0 + j) ∧ op.act ≠ .mark .disable ∧ op.act ≠ .mark .enable) (hq : ∀ i, i ≠ n0 + j → q' i = q i)
    (hE : ∀ (i : Nat) (z : Kid), kids[i]? = some z → i ≠ j → E' z.c = E z.c) (hexp : ∀ c o, E' c = some o → Chs kids c)
    (hmain : (b' = true ∧ ∃ off, gs'[0]? = some { a' with status := .running, offers := off }) ∨ (b' = false ∧ ∃ c z, gs'[0]? = some (parked a' #[rcase c z] (.recv true)) ∧ RecvAt P S O' a' w0' c z ∧ ∃ (i : Nat) (k : Kid), (kids.set j y)[i]? = some k ∧ k.c = c ∧ k.m = 2))
    (hown : Own' 0 = O') (hw0 : W' 0 = w0') (hy : KI P S n0 E' q' gs' w1 (t ++ u) j y) (hk : Own' (n0 + j) = y.own ∧ (1 ≤ y.m → W' (n0 + j) = y.w)) (hO : ∀ i, i ≠ 0 → i ≠ n0 + j → Own' i = Own i ∧ W' i = W i)
    (hres : ∀ c, R' = some c → (∃ tm, w1.heap[c]? = some (.chan 0 #[] false 0 0 tm)) ∧ ¬S c ∧ (∀ g, LiveG n0 gs.size g → ¬Own' g c) ∧ ¬Chs kids c)
    (hreg : Reg (LiveG n0 gs.size) Own' S (Chs kids) W' w1 (t ++ u)) : CI P S n0 E' R' O' a' w0' (kids.set j y) q' gs' w1 (t ++ u) Own' W' b' := by
  have hj : j < kids.length := (List.getElem?_eq_some_iff.1 hx).1
  have hchs := chs_set hx hc
  have hdeaf : ∀ g, Deaf (t ++ u) g = Deaf t g := fun g => deaf_same fun op hop => (hu op hop).2
  have hpos := h.pos
  refine ⟨h.pos, by rw [hsz, h.size]; simp, fun i g h1 h2 hg => ?_, fun i hi => ?_, hmain, hown, hw0, fun i z hz => ?_, fun i z hz => ?_, fun i k x1 y1 h1 h2 he => ?_, fun c hr => ?_, fun c o hc => ?_, ?_⟩
  · rw [hdeaf, hq i (by omega)]
    exact h.old i g h1 h2 (by rw [← hgs i (by omega) (by omega)]; exact hg)
  · rw [hdeaf]; exact h.above i (by rw [← hsz]; exact hi)
  · by_cases e : j = i
    · subst e
      rw [List.getElem?_set_self hj] at hz
      injection hz with hz
      subst hz
      exact hy
    · rw [List.getElem?_set_ne e] at hz
      refine (h.kid i z hz).keep (hgs _ (by omega) (by omega)) (hheap i z hz (Ne.symm e)) (hE i z hz (Ne.symm e)) (hq _ (by omega)) fun op hop hg => ?_
      rcases (hu op hop).1 with e1 | e1 <;> omega
  · by_cases e : j = i
    · subst e
      rw [List.getElem?_set_self hj] at hz
      injection hz with hz
      subst hz
      exact hk
    · rw [List.getElem?_set_ne e] at hz
      obtain ⟨k1, k2⟩ := hO (n0 + i) (by omega) (by omega)
      rw [k1, k2]
      exact h.kown i z hz
  · have key : ∀ (i : Nat) (z : Kid), (kids.set j y)[i]? = some z → ∃ z', kids[i]? = some z' ∧ z'.c = z.c := by
      intro i z hz
      by_cases e : j = i
      · subst e
        rw [List.getElem?_set_self hj] at hz
        injection hz with hz
        subst hz
        exact ⟨x, hx, hc.symm⟩
      · rw [List.getElem?_set_ne e] at hz
        exact ⟨z, hz, rfl⟩
    obtain ⟨x', p1, p2⟩ := key i x1 h1
    obtain ⟨y', p3, p4⟩ := key k y1 h2
    exact h.ch i k x' y' p1 p3 (by rw [p2, p4]; exact he)
  · rw [hsz, hchs]; exact hres c hr
  · rw [hchs]; exact hexp c o hc
  · rw [hsz, hchs]; exact hreg
theorem CI.mainTo (h : CI P S n0 E R O a w0 kids q gs w t Own W b) (hsz : gs'.size = gs.size) (hgs : ∀ i, i ≠ 0 → gs'[i]? = gs[i]?)
    (hheap : ∀ (i : Nat) (z : Kid), kids[i]? = some z → w1.heap[z.c]? = w.heap[z.c]?) (hu : ∀ op ∈ u, op.g = 0 ∧ op.act ≠ .mark .disable ∧ op.act ≠ .mark .enable)
    (hmain : (b' = true ∧ ∃ off, gs'[0]? = some { a' with status := .running, offers := off }) ∨ (b' = false ∧ ∃ c z, gs'[0]? = some (parked a' #[rcase c z] (.recv true)) ∧ RecvAt P S O' a' w0' c z ∧ ∃ (i : Nat) (k : Kid), kids[i]? = some k ∧ k.c = c ∧ k.m = 2))
    (hown : Own' 0 = O') (hw0 : W' 0 = w0') (hO : ∀ i, i ≠ 0 → Own' i = Own i ∧ W' i = W i)
    (hres : ∀ c, R' = some c → (∃ tm, w1.heap[c]? = some (.chan 0 #[] false 0 0 tm)) ∧ ¬S c ∧ (∀ g, LiveG n0 gs.size g → ¬Own' g c) ∧ ¬Chs kids c)
    (hreg : Reg (LiveG n0 gs.size) Own' S (Chs kids) W' w1 (t ++ u)) : CI P S n0 E R' O' a' w0' kids q gs' w1 (t ++ u) Own' W' b' := by
  have hdeaf : ∀ g, Deaf (t ++ u) g = Deaf t g := fun g => deaf_same fun op hop => (hu op hop).2
  have hpos := h.pos
  refine ⟨h.pos, by rw [hsz]; exact h.size, fun i g h1 h2 hg => ?_, fun i hi => ?_, hmain, hown, hw0, fun i z hz => ?_, fun i z hz => ?_, h.ch, fun c hr => by rw [hsz]; exact hres c hr, h.exp, by rw [hsz]; exact hreg⟩
  · rw [hdeaf]
    exact h.old i g h1 h2 (by rw [← hgs i (by omega)]; exact hg)
  · rw [hdeaf]; exact h.above i (by rw [← hsz]; exact hi)
  · refine (h.kid i z hz).keep (hgs _ (by omega)) (hheap i z hz) rfl rfl fun op hop hg => ?_
    have := (hu op hop).1
    omega
  · obtain ⟨k1, k2⟩ := hO (n0 + i) (by omega)
    rw [k1, k2]
    exact h.kown i z hz
theorem ofE_nil (g : Nat) (fn : FuncId) (pos : String) : MemOp.ofEvents g fn pos #[] = #[] := rfl
theorem calm_of {g : Nat} {fn : FuncId} {pos : String} {es : Array Event} {O S : Nat → Prop} (h : ∀ e ∈ es, EvW O S e) : ∀ op ∈ MemOp.ofEvents g fn pos es, op.g = g ∧ op.act ≠ .mark .disable ∧ op.act ≠ .mark .enable := by
  intro op hop
  obtain ⟨e, he, rfl⟩ := Conc.mem_ofEvents hop
  exact ⟨rfl, evW_calm (h e he)⟩
/-- A channel that is reserved stays as it is. -/
theorem CI.res_did (h : CI P S n0 E R O a w0 kids q gs w t Own W b) {g : Nat} (hg : LiveG n0 gs.size g) (hd : DidO (Own g) w w1) : ∀ c, R = some c → (∃ tm, w1.heap[c]? = some (.chan 0 #[] false 0 0 tm)) ∧ ¬S c ∧ (∀ g', LiveG n0 gs.size g' → ¬put Own g (own (Own g) w w1) g' c) ∧ ¬Chs kids c := by
  intro c hr
  obtain ⟨⟨tm, h1⟩, h2, h3, h4⟩ := h.res c hr
  have hlt : c < w.heap.size := (Array.getElem?_eq_some_iff.1 h1).1
  refine ⟨⟨tm, by rw [hd.kept c hlt (h3 g hg)]; exact h1⟩, h2, fun g' hg' hb => ?_, h4⟩
  by_cases e : g' = g
  · rw [e, put_same] at hb
    rcases hb with hb | hb
    · exact h3 g hg hb
    · omega
  · rw [put_ne _ _ e] at hb
    exact h3 g' hg' hb
theorem CI.chan_did (h : CI P S n0 E R O a w0 kids q gs w t Own W b) {g : Nat} (hg : LiveG n0 gs.size g) (hd : DidO (Own g) w w1) : ∀ (i : Nat) (z : Kid), kids[i]? = some z → w1.heap[z.c]? = w.heap[z.c]? :=
  fun i z hz => hd.kept z.c (h.lowC hz) fun hb => h.reg.lie.ownCh g z.c hg hb ⟨i, z, hz, rfl⟩
theorem OpenC.of {c : Nat} (h : OpenC w c) (e : w1.heap[c]? = w.heap[c]?) : OpenC w1 c := let ⟨s, r, tm, k⟩ := h; ⟨s, r, tm, by rw [e]; exact k⟩
/-- One that was started takes a step of its own. -/
theorem CI.kidOwn (h : CI P S n0 E R O a w0 kids q gs w t Own W b) {j : Nat} {x : Kid} (hx : kids[j]? = some x) (hm : x.m = 2) {g1 : Goroutine} {es : Array Event} (hg1 : KT P S x.c x.outs (own x.own w w1) g1 w1) (hd : DidO x.own w w1) (he : ∀ e ∈ es, EvW (own x.own w w1) S e) (fn : FuncId) (pos : String) (f : Goroutine → Goroutine) (hf : ∀ (i : Nat) (z : Goroutine), i ≠ n0 + j → gs[i]? = some z → f z = z) :
    CI P S n0 E R O a w0 (kids.set j { x with own := own x.own w w1, g := g1, w := w1 }) q ((gs.map f).setIfInBounds (n0 + j) g1) w1 (t ++ MemOp.ofEvents (n0 + j) fn pos es) (put Own (n0 + j) (own x.own w w1)) (put W (n0 + j) w1) b := by
  have hL := h.liveK hx
  have hpos := h.pos
  obtain ⟨ho, hW⟩ := h.kown j x hx
  have hd' : DidO (Own (n0 + j)) w w1 := by rw [ho]; exact hd
  have he' : ∀ e ∈ es, EvW (own (Own (n0 + j)) w w1) S e := by rw [ho]; exact he
  have hlt : n0 + j < gs.size := by rw [h.size]; have := (List.getElem?_eq_some_iff.1 hx).1; omega
  have hset := set_get gs f (n0 + j) g1 hf
  have hreg := h.reg.step hL hd' he' fn pos
  have hres := h.res_did hL hd'
  rw [ho] at hreg hres
  refine h.to hx rfl (by simp) (fun i _ hi => hset i hi) (fun i z hz _ => h.chan_did hL hd' i z hz) (fun op hop => ?_) (fun _ _ => rfl) (fun _ _ _ _ => rfl) h.exp ?_ (by rw [put_ne _ _ (by omega)]; exact h.own0) (by rw [put_ne _ _ (by omega)]; exact h.w0) ?_ ⟨put_same _ _ _, fun _ => put_same _ _ _⟩ (fun i _ hi => ⟨put_ne _ _ hi, put_ne _ _ hi⟩) hres hreg
  · exact ⟨.inr (calm_of he op hop).1, (calm_of he op hop).2⟩
  · have e0 : ((gs.map f).setIfInBounds (n0 + j) g1)[0]? = gs[0]? := hset 0 (by omega)
    rw [e0]
    refine h.main.imp id fun ⟨k1, c, z, k2, k3, i, k, k4, k5, k6⟩ => ⟨k1, c, z, k2, k3, ?_⟩
    by_cases e : j = i
    · subst e
      rw [hx] at k4
      injection k4 with k4
      subst k4
      exact ⟨j, _, List.getElem?_set_self (List.getElem?_eq_some_iff.1 hx).1, k5, hm⟩
    · exact ⟨i, k, by rw [List.getElem?_set_ne e]; exact k4, k5, k6⟩
  · exact .live hm (set_at gs f g1 hlt) hg1 (((h.kid j x hx).openC (by omega)).of (h.chan_did hL hd' j x hx)) ((h.kid j x hx).exp (by omega))
/-- It sits down to send. -/
theorem CI.kidSit (h : CI P S n0 E R O a w0 kids q gs w t Own W b) {j : Nat} {x : Kid} (hx : kids[j]? = some x) (hm : x.m = 2) {v z : Value} {outs : List Value} (ho : x.outs = v :: outs) (hk : KT P S x.c outs x.own (Conc.served x.g undef) x.w) (hno : ∀ z, gs[0]? ≠ some (parked a #[rcase x.c z] (.recv true))) :
    CI P S n0 E R O a w0 (kids.set j { x with m := 1 }) q (gs.setIfInBounds (n0 + j) (parked x.g #[scase x.c v z] .send)) w t Own W b := by
  have hpos := h.pos
  have hj := (List.getElem?_eq_some_iff.1 hx).1
  have hlt : n0 + j < gs.size := by rw [h.size]; omega
  have hset : ∀ i, i ≠ n0 + j → (gs.setIfInBounds (n0 + j) (parked x.g #[scase x.c v z] .send))[i]? = gs[i]? := fun i hi => Array.getElem?_setIfInBounds_ne (Ne.symm hi)
  have := h.to (u := #[]) (E' := E) (R' := R) (O' := O) (a' := a) (w0' := w0) (q' := q) (gs' := gs.setIfInBounds (n0 + j) (parked x.g #[scase x.c v z] .send)) (w1 := w) (Own' := Own) (W' := W) (b' := b) hx (y := { x with m := 1 }) rfl (by simp) (fun i _ hi => hset i hi) (fun _ _ _ _ => rfl) (by simp) (fun _ _ => rfl) (fun _ _ _ _ => rfl) h.exp ?_ h.own0 h.w0 ?_ ⟨(h.kown j x hx).1, fun _ => (h.kown j x hx).2 (by omega)⟩ (fun _ _ _ => ⟨rfl, rfl⟩) h.res (by simpa using h.reg)
  · simpa using this
  · rw [hset 0 (by omega)]
    refine h.main.imp id fun ⟨k1, c, z, k2, k3, i, k, k4, k5, k6⟩ => ⟨k1, c, z, k2, k3, i, k, ?_, k5, k6⟩
    have : j ≠ i := by
      rintro rfl
      rw [hx] at k4
      injection k4 with k4
      subst k4
      rw [← k5] at k2
      exact hno z k2
    rw [List.getElem?_set_ne this]
    exact k4
  · exact .sits v z outs rfl (by simp [hlt]) ho hk ((h.kid j x hx).openC (by omega)) ((h.kid j x hx).exp (by omega))
end
end Go.Proofs.Ytgeoffpcmkofkaa
