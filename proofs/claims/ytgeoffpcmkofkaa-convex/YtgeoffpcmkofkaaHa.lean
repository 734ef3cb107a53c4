/- The way below some points that are gone through in their order: strictly left turns, and no point to the right of it. (Pure: any D and K with the laws of a plane.) -/
import Derived.Calls
namespace Go.Proofs.Ytgeoffpcmkofkaa

/-- D tells on which side; K is the place in the order. -/
structure Pl {α : Type} (D : α → α → α → Int) (K : α → Int) : Prop where
  rot : ∀ a b c, D b c a = D a b c
  swp : ∀ a b c, D b a c = -D a b c
  pl : ∀ s t p x, D s p x * (K t - K s) = D s t x * (K p - K s) - D s t p * (K x - K s)
section
variable {α : Type} {D : α → α → α → Int} {K : α → Int}
theorem pos_of {a b : Int} (h : 0 ≤ a * b) (hb : 0 < b) : 0 ≤ a := by
  rcases Int.lt_or_le a 0 with ha | ha
  · have := Int.mul_neg_of_neg_of_pos ha hb
    omega
  · exact ha
theorem pos_of' {a b : Int} (h : 0 < a * b) (hb : 0 < b) : 0 < a := by
  rcases Int.lt_or_le 0 a with ha | ha
  · exact ha
  · have := Int.mul_nonpos_of_nonpos_of_nonneg ha (Int.le_of_lt hb)
    omega
theorem Pl.same (h : Pl D K) (a b : α) : D a b a = 0 := by
  have h1 := h.swp a a b
  have h2 := h.rot a a b
  have h3 := h.rot a b a
  omega
theorem Pl.same' (h : Pl D K) (a b : α) : D a b b = 0 := by
  have h1 := h.swp b b a
  have h2 := h.rot a b b
  omega
theorem Pl.pop1 (h : Pl D K) {s t p x : α} (k1 : K s < K x) (k2 : K s < K t) (k3 : K s < K p) (h1 : 0 ≤ D s t x) (h2 : D s t p ≤ 0) : 0 ≤ D s p x := by
  have e := h.pl s t p x
  refine pos_of (b := K t - K s) ?_ (by omega)
  rw [e]
  have a1 := Int.mul_nonneg h1 (show 0 ≤ K p - K s by omega)
  have a2 := Int.mul_nonpos_of_nonpos_of_nonneg h2 (show 0 ≤ K x - K s by omega)
  omega
theorem Pl.pop2 (h : Pl D K) {s t p x : α} (k1 : K s < K p) (k2 : K t < K p) (k3 : K x ≤ K p) (h1 : 0 ≤ D t p x) (h2 : D s t p ≤ 0) : 0 ≤ D s p x := by
  have e := h.pl p t s x
  have r1 := h.swp t p x
  have r2 := h.swp s p x
  have r3 := h.rot s t p
  have r4 := h.swp t p s
  have a1 := Int.mul_nonneg (show 0 ≤ D t p x from h1) (show 0 ≤ K p - K s by omega)
  have a2 := Int.mul_nonneg (show 0 ≤ D p t s by omega) (show 0 ≤ K p - K x by omega)
  have e1 : D p t x * (K s - K p) = D t p x * (K p - K s) := by rw [r1]; grind
  have e2 : D p t s * (K x - K p) = -(D p t s * (K p - K x)) := by grind
  have e3 : D p s x * (K t - K p) = D s p x * (K p - K t) := by rw [r2]; grind
  refine pos_of (b := K p - K t) ?_ (by omega)
  omega
theorem Pl.behind (h : Pl D K) {u t p x : α} (k1 : K x ≤ K t) (k2 : K u < K t) (k3 : K t < K p) (h1 : 0 ≤ D u t x) (h2 : 0 < D u t p) : 0 ≤ D t p x := by
  have e := h.pl t u p x
  have r1 := h.swp u t x
  have r2 := h.swp u t p
  have a1 := Int.mul_nonneg h1 (show 0 ≤ K p - K t by omega)
  have a2 := Int.mul_nonneg (Int.le_of_lt h2) (show 0 ≤ K t - K x by omega)
  have e1 : D t u x * (K p - K t) = -(D u t x * (K p - K t)) := by rw [r1]; grind
  have e2 : D t u p * (K x - K t) = D u t p * (K t - K x) := by rw [r2]; grind
  have e3 : D t p x * (K u - K t) = -(D t p x * (K t - K u)) := by grind
  refine pos_of (b := K t - K u) ?_ (by omega)
  omega
theorem Pl.left (h : Pl D K) {a b c p : α} (k1 : K a < K b) (k2 : K b < K c) (k3 : K b < K p) (h1 : 0 < D a b c) (h2 : 0 ≤ D b c p) : 0 < D a b p := by
  have e := h.pl b a c p
  have r1 := h.swp a b p
  have r2 := h.swp a b c
  have a1 := Int.mul_pos h1 (show 0 < K p - K b by omega)
  have a2 := Int.mul_nonneg h2 (show 0 ≤ K b - K a by omega)
  have e1 : D b a p * (K c - K b) = -(D a b p * (K c - K b)) := by rw [r1]; grind
  have e2 : D b a c * (K p - K b) = -(D a b c * (K p - K b)) := by rw [r2]; grind
  have e3 : D b c p * (K a - K b) = -(D b c p * (K b - K a)) := by grind
  refine pos_of' (b := K c - K b) ?_ (by omega)
  omega

/-- The last points of the way that do not turn left towards p are left out. (The way's last point is the list's first.) -/
def pops (D : α → α → α → Int) (p : α) : List α → List α
  | t :: s :: l => if D s t p ≤ 0 then pops D p (s :: l) else t :: s :: l
  | l => l
def wayOf (D : α → α → α → Int) (xs : List α) : List α := xs.foldl (fun way p => p :: pops D p way) []
/-- Each three turn left. -/
def Turns (D : α → α → α → Int) : List α → Prop
  | c :: b :: a :: l => 0 < D a b c ∧ Turns D (b :: a :: l)
  | _ => True
/-- x is not to the right of any side. -/
def LeftOf (D : α → α → α → Int) (x : α) : List α → Prop
  | v :: u :: l => 0 ≤ D u v x ∧ LeftOf D x (u :: l)
  | _ => True
/-- Falling in the order. -/
def Falls (K : α → Int) : List α → Prop
  | v :: u :: l => K u < K v ∧ Falls K (u :: l)
  | _ => True
theorem Turns.tail : ∀ {c : α} {l : List α}, Turns D (c :: l) → Turns D l
  | _, [], _ => trivial
  | _, [_], _ => trivial
  | _, _ :: _ :: _, h => h.2
theorem LeftOf.tail {x : α} : ∀ {c : α} {l : List α}, LeftOf D x (c :: l) → LeftOf D x l
  | _, [], _ => trivial
  | _, _ :: _, h => h.2
theorem Falls.tail : ∀ {c : α} {l : List α}, Falls K (c :: l) → Falls K l
  | _, [], _ => trivial
  | _, _ :: _, h => h.2
/-- What is left of the way once p has come. -/
structure Popped (D : α → α → α → Int) (K : α → Int) (Seen : α → Prop) (p : α) (way : List α) : Prop where
  turns : Turns D way
  falls : Falls K way
  left : ∀ x, Seen x → LeftOf D x way
  part : ∀ x ∈ way, Seen x
  some : way ≠ []
  over : ∀ t l, way = t :: l → ∀ x, Seen x → K t < K x → 0 ≤ D t p x
  low : ∀ m ∈ way.getLast?, ∀ x, Seen x → K m ≤ K x ∧ (K x = K m → x = m)
theorem pops_ok (h : Pl D K) {Seen : α → Prop} {p : α} (hp : ∀ x, Seen x → K x < K p) : ∀ {way : List α}, Popped D K Seen p way → Popped D K Seen p (pops D p way) ∧ ∀ t u l, pops D p way = t :: u :: l → 0 < D u t p
  | [], hw => absurd rfl hw.some
  | [t], hw => ⟨by simpa only [pops] using hw, fun t' u l e => by simp [pops] at e⟩
  | t :: s :: l, hw => by
    unfold pops
    split
    · rename_i hd
      refine pops_ok h hp ⟨hw.turns.tail, hw.falls.tail, fun x hx => (hw.left x hx).tail, fun x hx => hw.part x (List.mem_cons_of_mem _ hx), by simp, ?_, ?_⟩
      · intro t' l' e x hx hk
        injection e with e1 e2
        subst e1
        have f1 : K s < K t := hw.falls.1
        have kt := hp t (hw.part t (by simp))
        have ks := hp s (hw.part s (by simp))
        have kx := hp x hx
        rcases Int.lt_or_le (K t) (K x) with hx' | hx'
        · exact h.pop2 ks kt (by omega) (hw.over t _ rfl x hx hx') hd
        · exact h.pop1 hk f1 ks (hw.left x hx).1 hd
      · have := hw.low
        simpa using this
    · rename_i hd
      refine ⟨hw, fun t' u l' e => ?_⟩
      injection e with e1 e2
      injection e2 with e2 e3
      subst e1 e2
      omega
/-- The way below what was seen. -/
structure WayOK (D : α → α → α → Int) (K : α → Int) (Seen : α → Prop) (way : List α) : Prop where
  turns : Turns D way
  falls : Falls K way
  left : ∀ x, Seen x → LeftOf D x way
  part : ∀ x ∈ way, Seen x
  some : way ≠ []
  top : ∀ t l, way = t :: l → ∀ x, Seen x → K x ≤ K t
  low : ∀ m ∈ way.getLast?, ∀ x, Seen x → K m ≤ K x ∧ (K x = K m → x = m)
theorem left_all (h : Pl D K) {p : α} : ∀ {t u : α} {l : List α}, Turns D (t :: u :: l) → Falls K (t :: u :: l) → K t < K p → 0 < D u t p → LeftOf D p (t :: u :: l)
  | t, u, [], _, _, _, hd => ⟨Int.le_of_lt hd, trivial⟩
  | t, u, v :: l, ht, hf, hk, hd => by
    have k1 : K u < K t := hf.1
    have k2 : K v < K u := hf.2.1
    exact ⟨Int.le_of_lt hd, left_all h ht.2 hf.2 (by omega) (h.left k2 k1 (by omega) ht.1 (Int.le_of_lt hd))⟩
theorem push_ok (h : Pl D K) {Seen : α → Prop} {p : α} (hp : ∀ x, Seen x → K x < K p) {way : List α} (hw : WayOK D K Seen way) : WayOK D K (fun x => Seen x ∨ x = p) (p :: pops D p way) := by
  have hpop : Popped D K Seen p way := ⟨hw.turns, hw.falls, hw.left, hw.part, hw.some, fun t l e x hx hk => by have := hw.top t l e x hx; omega, hw.low⟩
  obtain ⟨hq, hd⟩ := pops_ok h hp hpop
  generalize pops D p way = w at hq hd
  cases w with
  | nil => exact absurd rfl hq.some
  | cons t l =>
    have kt := hp t (hq.part t (by simp))
    have hlp : LeftOf D p (t :: l) := by
      cases l with
      | nil => trivial
      | cons u l => exact left_all h hq.turns hq.falls kt (hd t u l rfl)
    refine ⟨?_, ⟨kt, hq.falls⟩, fun x hx => ⟨?_, ?_⟩, fun x hx => ?_, by simp, fun t' l' e x hx => ?_, fun m hm x hx => ?_⟩
    · cases l with
      | nil => trivial
      | cons u l => exact ⟨hd t u l rfl, hq.turns⟩
    · rcases hx with hx | rfl
      · rcases Int.lt_or_le (K t) (K x) with hk | hk
        · exact hq.over t l rfl x hx hk
        · cases l with
          | nil =>
            have := hq.low t (by simp) x hx
            rw [this.2 (by omega), h.same]
            exact Int.le_refl _
          | cons u l =>
            have f1 : K u < K t := hq.falls.1
            exact h.behind hk f1 kt (hq.left x hx).1 (hd t u l rfl)
      · rw [h.same']
        exact Int.le_refl _
    · rcases hx with hx | rfl
      · exact hq.left x hx
      · exact hlp
    · rcases List.mem_cons.1 hx with rfl | hx
      · exact .inr rfl
      · exact .inl (hq.part x hx)
    · injection e with e1 e2
      subst e1
      rcases hx with hx | rfl
      · exact Int.le_of_lt (hp x hx)
      · exact Int.le_refl _
    · have hm' : m ∈ (t :: l).getLast? := by simpa using hm
      have hmem : m ∈ t :: l := List.mem_of_getLast? hm'
      have km := hp m (hq.part m hmem)
      rcases hx with hx | rfl
      · exact hq.low m hm' x hx
      · exact ⟨Int.le_of_lt km, fun e => by omega⟩
/-- All points in their order. -/
theorem way_ok (h : Pl D K) : ∀ (xs : List α) {Seen : α → Prop} {way : List α}, WayOK D K Seen way → (∀ x ∈ xs, ∀ y, Seen y → K y < K x) → xs.Pairwise (fun a b => K a < K b) → WayOK D K (fun x => Seen x ∨ x ∈ xs) (xs.foldl (fun way p => p :: pops D p way) way)
  | [], Seen, way, hw, _, _ => by
    have e : (fun x => Seen x ∨ x ∈ ([] : List α)) = Seen := by funext x; simp
    rw [e]
    exact hw
  | p :: xs, Seen, way, hw, hs, ho => by
    rw [List.foldl_cons]
    have hp := push_ok h (fun y hy => hs p (by simp) y hy) hw
    rw [List.pairwise_cons] at ho
    have := way_ok h xs hp (fun x hx y hy => by
      rcases hy with hy | rfl
      · exact hs x (by simp [hx]) y hy
      · exact ho.1 x hx) ho.2
    have e : (fun x => (Seen x ∨ x = p) ∨ x ∈ xs) = fun x => Seen x ∨ x ∈ p :: xs := by funext x; simp [or_assoc]
    rw [e] at this
    exact this
theorem wayOf_ok (h : Pl D K) {p : α} {xs : List α} (ho : (p :: xs).Pairwise (fun a b => K a < K b)) : WayOK D K (fun x => x ∈ p :: xs) (wayOf D (p :: xs)) := by
  rw [List.pairwise_cons] at ho
  have h0 : WayOK D K (fun x => x = p) [p] := ⟨trivial, trivial, fun _ _ => trivial, fun x hx => by simpa using hx, by simp, fun t l e x hx => by injection e with e1 e2; rw [hx, e1]; exact Int.le_refl _, fun m hm x hx => by
    have : p = m := by simpa using hm
    rw [hx, this]
    exact ⟨Int.le_refl _, fun _ => rfl⟩⟩
  have := way_ok h xs h0 (fun x hx y hy => by rw [hy]; exact ho.1 x hx) ho.2
  have e : (fun x => x = p ∨ x ∈ xs) = fun x => x ∈ p :: xs := by funext x; simp
  rw [e] at this
  exact this
end
end Go.Proofs.Ytgeoffpcmkofkaa
