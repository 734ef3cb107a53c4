/- Ha; Hb; Hc; Hd; He; Hf; Hg; Hh: texts laid into one. -/
import Derived.Calls
/- The way below some points that are gone through in their order: strictly left turns, and no point to the right of it. (Pure: any D and K with the laws of a plane.) -/
namespace Go.Proofs.Ytgeoffpcmkofkaa

/-- D tells on which side; K is the place in the order. -/
structure Pl {α : Type} (D : α → α → α → Int) (K : α → Int) : Prop where
  rot : ∀ a b c, D b c a = D a b c
  swp : ∀ a b c, D b a c = -D a b c
  pl : ∀ s t p x, D s p x * (K t - K s) = D s t x * (K p - K s) - D s t p * (K x - K s)
section
variable {α : Type} {D : α → α → α → Int} {K : α → Int}
theorem pos_of {a b : Int} (h : 0 ≤ a * b) (hb : 0 < b) : 0 ≤ a := by
  rcases Int.lt_or_le a 0 with ha | ha
  · have := Int.mul_neg_of_neg_of_pos ha hb
    omega
  · exact ha
theorem pos_of' {a b : Int} (h : 0 < a * b) (hb : 0 < b) : 0 < a := by
  rcases Int.lt_or_le 0 a with ha | ha
  · exact ha
  · have := Int.mul_nonpos_of_nonpos_of_nonneg ha (Int.le_of_lt hb)
    omega
theorem Pl.same (h : Pl D K) (a b : α) : D a b a = 0 := by
  have h1 := h.swp a a b
  have h2 := h.rot a a b
  have h3 := h.rot a b a
  omega
theorem Pl.same' (h : Pl D K) (a b : α) : D a b b = 0 := by
  have h1 := h.swp b b a
  have h2 := h.rot a b b
  omega
theorem Pl.pop1 (h : Pl D K) {s t p x : α} (k1 : K s < K x) (k2 : K s < K t) (k3 : K s < K p) (h1 : 0 ≤ D s t x) (h2 : D s t p ≤ 0) : 0 ≤ D s p x := by
  have e := h.pl s t p x
  refine pos_of (b := K t - K s) ?_ (by omega)
  rw [e]
  have a1 := Int.mul_nonneg h1 (show 0 ≤ K p - K s by omega)
  have a2 := Int.mul_nonpos_of_nonpos_of_nonneg h2 (show 0 ≤ K x - K s by omega)
  omega
theorem Pl.pop2 (h : Pl D K) {s t p x : α} (k1 : K s < K p) (k2 : K t < K p) (k3 : K x ≤ K p) (h1 : 0 ≤ D t p x) (h2 : D s t p ≤ 0) : 0 ≤ D s p x := by
  have e := h.pl p t s x
  have r1 := h.swp t p x
  have r2 := h.swp s p x
  have r3 := h.rot s t p
  have r4 := h.swp t p s
  have a1 := Int.mul_nonneg (show 0 ≤ D t p x from h1) (show 0 ≤ K p - K s by omega)
  have a2 := Int.mul_nonneg (show 0 ≤ D p t s by omega) (show 0 ≤ K p - K x by omega)
  have e1 : D p t x * (K s - K p) = D t p x * (K p - K s) := by rw [r1]; grind
  have e2 : D p t s * (K x - K p) = -(D p t s * (K p - K x)) := by grind
  have e3 : D p s x * (K t - K p) = D s p x * (K p - K t) := by rw [r2]; grind
  refine pos_of (b := K p - K t) ?_ (by omega)
  omega
theorem Pl.behind (h : Pl D K) {u t p x : α} (k1 : K x ≤ K t) (k2 : K u < K t) (k3 : K t < K p) (h1 : 0 ≤ D u t x) (h2 : 0 < D u t p) : 0 ≤ D t p x := by
  have e := h.pl t u p x
  have r1 := h.swp u t x
  have r2 := h.swp u t p
  have a1 := Int.mul_nonneg h1 (show 0 ≤ K p - K t by omega)
  have a2 := Int.mul_nonneg (Int.le_of_lt h2) (show 0 ≤ K t - K x by omega)
  have e1 : D t u x * (K p - K t) = -(D u t x * (K p - K t)) := by rw [r1]; grind
  have e2 : D t u p * (K x - K t) = D u t p * (K t - K x) := by rw [r2]; grind
  have e3 : D t p x * (K u - K t) = -(D t p x * (K t - K u)) := by grind
  refine pos_of (b := K t - K u) ?_ (by omega)
  omega
theorem Pl.left (h : Pl D K) {a b c p : α} (k1 : K a < K b) (k2 : K b < K c) (k3 : K b < K p) (h1 : 0 < D a b c) (h2 : 0 ≤ D b c p) : 0 < D a b p := by
  have e := h.pl b a c p
  have r1 := h.swp a b p
  have r2 := h.swp a b c
  have a1 := Int.mul_pos h1 (show 0 < K p - K b by omega)
  have a2 := Int.mul_nonneg h2 (show 0 ≤ K b - K a by omega)
  have e1 : D b a p * (K c - K b) = -(D a b p * (K c - K b)) := by rw [r1]; grind
  have e2 : D b a c * (K p - K b) = -(D a b c * (K p - K b)) := by rw [r2]; grind
  have e3 : D b c p * (K a - K b) = -(D b c p * (K b - K a)) := by grind
  refine pos_of' (b := K c - K b) ?_ (by omega)
  omega

/-- The last points of the way that do not turn left towards p are left out. (The way's last point is the list's first.) -/
def pops (D : α → α → α → Int) (p : α) : List α → List α
  | t :: s :: l => if D s t p ≤ 0 then pops D p (s :: l) else t :: s :: l
  | l => l
def wayOf (D : α → α → α → Int) (xs : List α) : List α := xs.foldl (fun way p => p :: pops D p way) []
/-- Each three turn left. -/
def Turns (D : α → α → α → Int) : List α → Prop
  | c :: b :: a :: l => 0 < D a b c ∧ Turns D (b :: a :: l)
  | _ => True
/-- x is not to the right of any side. -/
def LeftOf (D : α → α → α → Int) (x : α) : List α → Prop
  | v :: u :: l => 0 ≤ D u v x ∧ LeftOf D x (u :: l)
  | _ => True
/-- Falling in the order. -/
def Falls (K : α → Int) : List α → Prop
  | v :: u :: l => K u < K v ∧ Falls K (u :: l)
  | _ => True
theorem Turns.tail : ∀ {c : α} {l : List α}, Turns D (c :: l) → Turns D l
  | _, [], _ => trivial
  | _, [_], _ => trivial
  | _, _ :: _ :: _, h => h.2
theorem LeftOf.tail {x : α} : ∀ {c : α} {l : List α}, LeftOf D x (c :: l) → LeftOf D x l
  | _, [], _ => trivial
  | _, _ :: _, h => h.2
theorem Falls.tail : ∀ {c : α} {l : List α}, Falls K (c :: l) → Falls K l
  | _, [], _ => trivial
  | _, _ :: _, h => h.2
/-- What is left of the way once p has come. -/
structure Popped (D : α → α → α → Int) (K : α → Int) (Seen : α → Prop) (p : α) (way : List α) : Prop where
  turns : Turns D way
  falls : Falls K way
  left : ∀ x, Seen x → LeftOf D x way
  part : ∀ x ∈ way, Seen x
  some : way ≠ []
  over : ∀ t l, way = t :: l → ∀ x, Seen x → K t < K x → 0 ≤ D t p x
  low : ∀ m ∈ way.getLast?, ∀ x, Seen x → K m ≤ K x ∧ (K x = K m → x = m)
theorem pops_ok (h : Pl D K) {Seen : α → Prop} {p : α} (hp : ∀ x, Seen x → K x < K p) : ∀ {way : List α}, Popped D K Seen p way → Popped D K Seen p (pops D p way) ∧ ∀ t u l, pops D p way = t :: u :: l → 0 < D u t p
  | [], hw => absurd rfl hw.some
  | [t], hw => ⟨by simpa only [pops] using hw, fun t' u l e => by simp [pops] at e⟩
  | t :: s :: l, hw => by
    unfold pops
    split
    · rename_i hd
      refine pops_ok h hp ⟨hw.turns.tail, hw.falls.tail, fun x hx => (hw.left x hx).tail, fun x hx => hw.part x (List.mem_cons_of_mem _ hx), by simp, ?_, ?_⟩
      · intro t' l' e x hx hk
        injection e with e1 e2
        subst e1
        have f1 : K s < K t := hw.falls.1
        have kt := hp t (hw.part t (by simp))
        have ks := hp s (hw.part s (by simp))
        have kx := hp x hx
        rcases Int.lt_or_le (K t) (K x) with hx' | hx'
        · exact h.pop2 ks kt (by omega) (hw.over t _ rfl x hx hx') hd
        · exact h.pop1 hk f1 ks (hw.left x hx).1 hd
      · have := hw.low
        simpa using this
    · rename_i hd
      refine ⟨hw, fun t' u l' e => ?_⟩
      injection e with e1 e2
      injection e2 with e2 e3
      subst e1 e2
      omega
/-- The way below what was seen. -/
structure WayOK (D : α → α → α → Int) (K : α → Int) (Seen : α → Prop) (way : List α) : Prop where
  turns : Turns D way
  falls : Falls K way
  left : ∀ x, Seen x → LeftOf D x way
  part : ∀ x ∈ way, Seen x
  some : way ≠ []
  top : ∀ t l, way = t :: l → ∀ x, Seen x → K x ≤ K t
  low : ∀ m ∈ way.getLast?, ∀ x, Seen x → K m ≤ K x ∧ (K x = K m → x = m)
theorem left_all (h : Pl D K) {p : α} : ∀ {t u : α} {l : List α}, Turns D (t :: u :: l) → Falls K (t :: u :: l) → K t < K p → 0 < D u t p → LeftOf D p (t :: u :: l)
  | t, u, [], _, _, _, hd => ⟨Int.le_of_lt hd, trivial⟩
  | t, u, v :: l, ht, hf, hk, hd => by
    have k1 : K u < K t := hf.1
    have k2 : K v < K u := hf.2.1
    exact ⟨Int.le_of_lt hd, left_all h ht.2 hf.2 (by omega) (h.left k2 k1 (by omega) ht.1 (Int.le_of_lt hd))⟩
theorem push_ok (h : Pl D K) {Seen : α → Prop} {p : α} (hp : ∀ x, Seen x → K x < K p) {way : List α} (hw : WayOK D K Seen way) : WayOK D K (fun x => Seen x ∨ x = p) (p :: pops D p way) := by
  have hpop : Popped D K Seen p way := ⟨hw.turns, hw.falls, hw.left, hw.part, hw.some, fun t l e x hx hk => by have := hw.top t l e x hx; omega, hw.low⟩
  obtain ⟨hq, hd⟩ := pops_ok h hp hpop
  generalize pops D p way = w at hq hd
  cases w with
  | nil => exact absurd rfl hq.some
  | cons t l =>
    have kt := hp t (hq.part t (by simp))
    have hlp : LeftOf D p (t :: l) := by
      cases l with
      | nil => trivial
      | cons u l => exact left_all h hq.turns hq.falls kt (hd t u l rfl)
    refine ⟨?_, ⟨kt, hq.falls⟩, fun x hx => ⟨?_, ?_⟩, fun x hx => ?_, by simp, fun t' l' e x hx => ?_, fun m hm x hx => ?_⟩
    · cases l with
      | nil => trivial
      | cons u l => exact ⟨hd t u l rfl, hq.turns⟩
    · rcases hx with hx | rfl
      · rcases Int.lt_or_le (K t) (K x) with hk | hk
        · exact hq.over t l rfl x hx hk
        · cases l with
          | nil =>
            have := hq.low t (by simp) x hx
            rw [this.2 (by omega), h.same]
            exact Int.le_refl _
          | cons u l =>
            have f1 : K u < K t := hq.falls.1
            exact h.behind hk f1 kt (hq.left x hx).1 (hd t u l rfl)
      · rw [h.same']
        exact Int.le_refl _
    · rcases hx with hx | rfl
      · exact hq.left x hx
      · exact hlp
    · rcases List.mem_cons.1 hx with rfl | hx
      · exact .inr rfl
      · exact .inl (hq.part x hx)
    · injection e with e1 e2
      subst e1
      rcases hx with hx | rfl
      · exact Int.le_of_lt (hp x hx)
      · exact Int.le_refl _
    · have hm' : m ∈ (t :: l).getLast? := by simpa using hm
      have hmem : m ∈ t :: l := List.mem_of_getLast? hm'
      have km := hp m (hq.part m hmem)
      rcases hx with hx | rfl
      · exact hq.low m hm' x hx
      · exact ⟨Int.le_of_lt km, fun e => by omega⟩
/-- All points in their order. -/
theorem way_ok (h : Pl D K) : ∀ (xs : List α) {Seen : α → Prop} {way : List α}, WayOK D K Seen way → (∀ x ∈ xs, ∀ y, Seen y → K y < K x) → xs.Pairwise (fun a b => K a < K b) → WayOK D K (fun x => Seen x ∨ x ∈ xs) (xs.foldl (fun way p => p :: pops D p way) way)
  | [], Seen, way, hw, _, _ => by
    have e : (fun x => Seen x ∨ x ∈ ([] : List α)) = Seen := by funext x; simp
    rw [e]
    exact hw
  | p :: xs, Seen, way, hw, hs, ho => by
    rw [List.foldl_cons]
    have hp := push_ok h (fun y hy => hs p (by simp) y hy) hw
    rw [List.pairwise_cons] at ho
    have := way_ok h xs hp (fun x hx y hy => by
      rcases hy with hy | rfl
      · exact hs x (by simp [hx]) y hy
      · exact ho.1 x hx) ho.2
    have e : (fun x => (Seen x ∨ x = p) ∨ x ∈ xs) = fun x => Seen x ∨ x ∈ p :: xs := by funext x; simp [or_assoc]
    rw [e] at this
    exact this
theorem wayOf_ok (h : Pl D K) {p : α} {xs : List α} (ho : (p :: xs).Pairwise (fun a b => K a < K b)) : WayOK D K (fun x => x ∈ p :: xs) (wayOf D (p :: xs)) := by
  rw [List.pairwise_cons] at ho
  have h0 : WayOK D K (fun x => x = p) [p] := ⟨trivial, trivial, fun _ _ => trivial, fun x hx => by simpa using hx, by simp, fun t l e x hx => by injection e with e1 e2; rw [hx, e1]; exact Int.le_refl _, fun m hm x hx => by
    have : p = m := by simpa using hm
    rw [hx, this]
    exact ⟨Int.le_refl _, fun _ => rfl⟩⟩
  have := way_ok h xs h0 (fun x hx y hy => by rw [hy]; exact ho.1 x hx) ho.2
  have e : (fun x => x = p ∨ x ∈ xs) = fun x => x ∈ p :: xs := by funext x; simp
  rw [e] at this
  exact this
end
end Go.Proofs.Ytgeoffpcmkofkaa
/- There and back: where the two ways meet. (Pure.) -/
namespace Go.Proofs.Ytgeoffpcmkofkaa
section
variable {α : Type} {D : α → α → α → Int} {K : α → Int}
theorem Pl.neg (h : Pl D K) : Pl D (fun x => -K x) := ⟨h.rot, h.swp, fun s t p x => by have := h.pl s t p x; grind⟩
/-- If the two ways do not turn where they meet, all lies in a line. -/
theorem Pl.join (h : Pl D K) {u m v x : α} (k1 : K u < K m) (k2 : K v < K m) (hd : D u m v = 0) (h1 : 0 ≤ D u m x) (h2 : 0 ≤ D m v x) : D u m x = 0 ∧ D m v x = 0 := by
  have e := h.pl m v u x
  have r1 := h.swp u m x
  have r2 := h.rot u m v
  have e0 : D m v u = 0 := by omega
  rw [e0, r1] at e
  have a1 := Int.mul_nonneg h1 (show 0 ≤ K m - K v by omega)
  have a2 := Int.mul_nonneg h2 (show 0 ≤ K m - K u by omega)
  have e1 : -D u m x * (K v - K m) = D u m x * (K m - K v) := by grind
  have e2 : D m v x * (K u - K m) - 0 * (K x - K m) = -(D m v x * (K m - K u)) := by grind
  have z1 : D u m x * (K m - K v) = 0 := by omega
  have z2 : D m v x * (K m - K u) = 0 := by omega
  rcases Int.mul_eq_zero.1 z1 with z1 | z1
  · rcases Int.mul_eq_zero.1 z2 with z2 | z2
    · exact ⟨z1, z2⟩
    · omega
  · omega
/-- The turn where the way there ends and the way back begins: there are three corners or more. -/
theorem Pl.turn (h : Pl D K) {Seen : α → Prop} {u m v : α} (k1 : K u < K m) (k2 : K v < K m) (hu : ∀ x, Seen x → 0 ≤ D u m x) (hv : ∀ x, Seen x → 0 ≤ D m v x) (hsv : Seen v)
    (more : (∃ a, Seen a ∧ 0 < D a u m) ∨ ∃ b, Seen b ∧ 0 < D m v b) : 0 < D u m v := by
  rcases Int.lt_or_le 0 (D u m v) with hd | hd
  · exact hd
  · have hz : D u m v = 0 := by have := hu v hsv; omega
    rcases more with ⟨a, ha, hp⟩ | ⟨b, hb, hp⟩
    · have := (h.join k1 k2 hz (hu a ha) (hv a ha)).1
      have r := h.rot a u m
      omega
    · have := (h.join k1 k2 hz (hu b hb) (hv b hb)).2
      omega
end
end Go.Proofs.Ytgeoffpcmkofkaa
/- What holds of all corners of a part holds of all its points. (Pure.) -/
namespace Go.Proofs.Ytgeoffpcmkofkaa
/-- D u v is affine. -/
def Aff {α : Type} (D : α → α → α → Int) (K : α → Int) : Prop := ∀ u v a b x, D u v x * (K b - K a) = D u v a * (K b - K x) + D u v b * (K x - K a) + D a b x * (K v - K u)
section
variable {α : Type} {D : α → α → α → Int} {K : α → Int}
theorem Aff.neg (h : Aff D K) : Aff D (fun x => -K x) := fun u v a b x => by have := h u v a b x; grind
/-- The side of the way below which, or above which, x lies. -/
theorem span : ∀ {way : List α} {x : α}, Falls K way → (∀ t ∈ way.head?, K x ≤ K t) → (∀ m ∈ way.getLast?, K m ≤ K x) → way ≠ [] → LeftOf D x way → (∃ m, way = [m] ∧ K x = K m) ∨ ∃ a b, a ∈ way ∧ b ∈ way ∧ K a < K b ∧ K a ≤ K x ∧ K x ≤ K b ∧ 0 ≤ D a b x
  | [], x, _, _, _, hn, _ => absurd rfl hn
  | [m], x, _, ht, hl, _, _ => .inl ⟨m, rfl, by
      have h1 := ht m (by simp)
      have h2 := hl m (by simp)
      omega⟩
  | b :: a :: l, x, hf, ht, hl, _, hx => by
    rcases Int.lt_or_le (K x) (K a) with hk | hk
    · rcases span hf.2 (fun t e => by
        have : a = t := by simpa using e
        rw [← this]; exact Int.le_of_lt hk) (by simpa using hl) (by simp) hx.2 with ⟨m, e, e'⟩ | ⟨a', b', h1, h2, h3⟩
      · injection e with e1 e2
        subst e1
        omega
      · exact .inr ⟨a', b', List.mem_cons_of_mem _ h1, List.mem_cons_of_mem _ h2, h3⟩
    · exact .inr ⟨a, b, by simp, by simp, hf.1, hk, ht b (by simp), hx.1⟩
/-- A side that looks forward: it is enough to look at the way's points. -/
theorem enough (hA : Aff D K) {Seen : α → Prop} {way : List α} (hw : WayOK D K Seen way) {u v : α} (huv : K u ≤ K v) (hc : ∀ c ∈ way, 0 ≤ D u v c) {x : α} (hx : Seen x) : 0 ≤ D u v x := by
  have ht : ∀ t ∈ way.head?, K x ≤ K t := by
    intro t e
    cases way with
    | nil => simp at e
    | cons t' l =>
      have : t' = t := by simpa using e
      subst this
      exact hw.top t' l rfl x hx
  rcases span hw.falls ht (fun m e => (hw.low m e x hx).1) hw.some (hw.left x hx) with ⟨m, e, e'⟩ | ⟨a, b, h1, h2, h3, h4, h5, h6⟩
  · have : x = m := (hw.low m (by rw [e]; simp) x hx).2 e'
    rw [this]
    exact hc m (by rw [e]; simp)
  · have e := hA u v a b x
    refine pos_of (b := K b - K a) ?_ (by omega)
    rw [e]
    have a1 := Int.mul_nonneg (hc a h1) (show 0 ≤ K b - K x by omega)
    have a2 := Int.mul_nonneg (hc b h2) (show 0 ≤ K x - K a by omega)
    have a3 := Int.mul_nonneg h6 (show 0 ≤ K v - K u by omega)
    omega
end
end Go.Proofs.Ytgeoffpcmkofkaa
/- The ways, by places. (Pure.) -/
namespace Go.Proofs.Ytgeoffpcmkofkaa
section
variable {α : Type} {D : α → α → α → Int} {K : α → Int}
theorem Turns.get : ∀ {l : List α}, Turns D l → ∀ (i : Nat) {a b c : α}, l[i]? = some c → l[i + 1]? = some b → l[i + 2]? = some a → 0 < D a b c
  | [], _, i, _, _, _, h, _, _ => by simp at h
  | [_], _, 0, _, _, _, _, h, _ => by simp at h
  | [_], _, i + 1, _, _, _, h, _, _ => by simp at h
  | [_, _], _, 0, _, _, _, _, _, h => by simp at h
  | [_, _], _, i + 1, _, _, _, _, h, _ => by simp at h
  | c :: b :: a :: l, ht, 0, a', b', c', h1, h2, h3 => by
    simp at h1 h2 h3
    subst h1 h2 h3
    exact ht.1
  | c :: b :: a :: l, ht, i + 1, a', b', c', h1, h2, h3 => ht.2.get i (by simpa using h1) (by simpa using h2) (by simpa using h3)
theorem LeftOf.get {x : α} : ∀ {l : List α}, LeftOf D x l → ∀ (i : Nat) {u v : α}, l[i]? = some v → l[i + 1]? = some u → 0 ≤ D u v x
  | [], _, i, _, _, h, _ => by simp at h
  | [_], _, 0, _, _, _, h => by simp at h
  | [_], _, i + 1, _, _, h, _ => by simp at h
  | v :: u :: l, hl, 0, u', v', h1, h2 => by
    simp at h1 h2
    subst h1 h2
    exact hl.1
  | v :: u :: l, hl, i + 1, u', v', h1, h2 => hl.2.get i (by simpa using h1) (by simpa using h2)
theorem Falls.get : ∀ {l : List α}, Falls K l → ∀ (i : Nat) {u v : α}, l[i]? = some v → l[i + 1]? = some u → K u < K v
  | [], _, i, _, _, h, _ => by simp at h
  | [_], _, 0, _, _, _, h => by simp at h
  | [_], _, i + 1, _, _, h, _ => by simp at h
  | v :: u :: l, hl, 0, u', v', h1, h2 => by
    simp at h1 h2
    subst h1 h2
    exact hl.1
  | v :: u :: l, hl, i + 1, u', v', h1, h2 => hl.2.get i (by simpa using h1) (by simpa using h2)
/-- Read from its first point: rising, left turns, no point to the right. -/
structure Rises (D : α → α → α → Int) (K : α → Int) (Seen : α → Prop) (r : List α) : Prop where
  turns : ∀ (i : Nat) (a b c : α), r[i]? = some a → r[i + 1]? = some b → r[i + 2]? = some c → 0 < D a b c
  left : ∀ (i : Nat) (u v x : α), r[i]? = some u → r[i + 1]? = some v → Seen x → 0 ≤ D u v x
  rise : ∀ (i : Nat) (u v : α), r[i]? = some u → r[i + 1]? = some v → K u < K v
  part : ∀ x ∈ r, Seen x
theorem WayOK.rises {Seen : α → Prop} {way : List α} (h : WayOK D K Seen way) : Rises D K Seen way.reverse := by
  have rv : ∀ (j : Nat) (z : α), way.reverse[j]? = Option.some z → j < way.length ∧ way[way.length - 1 - j]? = Option.some z := by
    intro j z hz
    have hlt : j < way.length := by
      have := (List.getElem?_eq_some_iff.1 hz).1
      simpa using this
    rw [List.getElem?_reverse hlt] at hz
    exact ⟨hlt, hz⟩
  refine ⟨fun i a b c h1 h2 h3 => ?_, fun i u v x h1 h2 hx => ?_, fun i u v h1 h2 => ?_, fun x hx => h.part x (by simpa using hx)⟩
  · obtain ⟨l1, e1⟩ := rv _ _ h1
    obtain ⟨l2, e2⟩ := rv _ _ h2
    obtain ⟨l3, e3⟩ := rv _ _ h3
    exact h.turns.get (way.length - 1 - (i + 2)) e3 (by rw [show way.length - 1 - (i + 2) + 1 = way.length - 1 - (i + 1) by omega]; exact e2) (by rw [show way.length - 1 - (i + 2) + 2 = way.length - 1 - i by omega]; exact e1)
  · obtain ⟨l1, e1⟩ := rv _ _ h1
    obtain ⟨l2, e2⟩ := rv _ _ h2
    exact (h.left x hx).get (way.length - 1 - (i + 1)) e2 (by rw [show way.length - 1 - (i + 1) + 1 = way.length - 1 - i by omega]; exact e1)
  · obtain ⟨l1, e1⟩ := rv _ _ h1
    obtain ⟨l2, e2⟩ := rv _ _ h2
    exact h.falls.get (way.length - 1 - (i + 1)) e2 (by rw [show way.length - 1 - (i + 1) + 1 = way.length - 1 - i by omega]; exact e1)
end
end Go.Proofs.Ytgeoffpcmkofkaa
/- The closed way round: its sides and its turns. (Pure.) -/
namespace Go.Proofs.Ytgeoffpcmkofkaa
section
variable {α : Type} {D : α → α → α → Int} {K : α → Int} {Seen : α → Prop}
/-- There and back again. -/
structure Round (T U : List α) (p q : Nat) : Prop where
  lenT : T.length = p + 1
  lenU : U.length = q + 1
  p1 : 1 ≤ p
  q1 : 1 ≤ q
  join : T[p]? = U[0]?
  close : U[q]? = T[0]?
/-- Each way without its last point. -/
def ring (T U : List α) (p q : Nat) : List α := T.take p ++ U.take q
theorem Round.length {T U : List α} {p q : Nat} (h : Round T U p q) : (ring T U p q).length = p + q := by
  simp only [ring, List.length_append, List.length_take, h.lenT, h.lenU]
  omega
theorem Round.at {T U : List α} {p q : Nat} (h : Round T U p q) {i : Nat} (hi : i < p + q) : (ring T U p q)[i]? = if i < p then T[i]? else U[i - p]? := by
  have hl : (T.take p).length = p := by simp [h.lenT]
  unfold ring
  by_cases hp : i < p
  · rw [List.getElem?_append_left (by rw [hl]; exact hp), List.getElem?_take_of_lt hp, if_pos hp]
  · rw [List.getElem?_append_right (by rw [hl]; omega), hl, List.getElem?_take_of_lt (by omega), if_neg hp]
/-- The place behind, round about. -/
theorem Round.next {T U : List α} {p q : Nat} (h : Round T U p q) {i : Nat} (hi : i < p + q) : (ring T U p q)[(i + 1) % (p + q)]? = if i + 1 ≤ p then T[i + 1]? else U[i + 1 - p]? := by
  have p1 := h.p1
  have q1 := h.q1
  by_cases hn : i + 1 = p + q
  · rw [hn, Nat.mod_self, h.at (by omega), if_pos (by omega), if_neg (by omega), show p + q - p = q by omega, h.close]
  · rw [Nat.mod_eq_of_lt (by omega), h.at (by omega)]
    by_cases h1 : i + 1 < p
    · rw [if_pos h1, if_pos (by omega)]
    · rw [if_neg h1]
      by_cases h2 : i + 1 = p
      · rw [if_pos (by omega), h2, h.join, Nat.sub_self]
      · rw [if_neg (by omega)]
theorem Round.sides {T U : List α} {p q : Nat} (h : Round T U p q) (hT : Rises D K Seen T) (hU : Rises D (fun x => -K x) Seen U) {i : Nat} (hi : i < p + q) {u v : α} (e1 : (ring T U p q)[i]? = some u) (e2 : (ring T U p q)[(i + 1) % (p + q)]? = some v) {x : α} (hx : Seen x) : 0 ≤ D u v x := by
  rw [h.at hi] at e1
  rw [h.next hi] at e2
  by_cases hp : i < p
  · rw [if_pos hp] at e1
    rw [if_pos (by omega)] at e2
    exact hT.left i u v x e1 e2 hx
  · rw [if_neg hp] at e1
    rw [if_neg (by omega)] at e2
    exact hU.left (i - p) u v x e1 (by rw [show i - p + 1 = i + 1 - p by omega]; exact e2) hx
theorem Round.turns (hP : Pl D K) {T U : List α} {p q : Nat} (h : Round T U p q) (hT : Rises D K Seen T) (hU : Rises D (fun x => -K x) Seen U) (h3 : 3 ≤ p + q) {i : Nat} (hi : i < p + q) {a b c : α} (e1 : (ring T U p q)[i]? = some a) (e2 : (ring T U p q)[(i + 1) % (p + q)]? = some b) (e3 : (ring T U p q)[(i + 2) % (p + q)]? = some c) : 0 < D a b c := by
  have p1 := h.p1
  have q1 := h.q1
  have e3' : (ring T U p q)[((i + 1) % (p + q) + 1) % (p + q)]? = some c := by
    rw [Nat.mod_add_mod]; exact e3
  have hj : (i + 1) % (p + q) < p + q := Nat.mod_lt _ (by omega)
  rw [h.next hj] at e3'
  have e2' := e2
  rw [h.next hi] at e2'
  rw [h.at hi] at e1
  have get : ∀ {l : List α} {k : Nat}, k < l.length → ∃ z, l[k]? = some z := fun hk => ⟨_, List.getElem?_eq_getElem hk⟩
  by_cases hp : i + 1 < p
  · -- both in the way there
    rw [if_pos (by omega)] at e1 e2'
    rw [Nat.mod_eq_of_lt (by omega), if_pos (by omega)] at e3'
    exact hT.turns i a b c e1 e2' e3'
  · by_cases hp2 : i + 1 = p
    · -- where the way there ends
      rw [if_pos (by omega)] at e1 e2'
      rw [hp2, Nat.mod_eq_of_lt (by omega), if_neg (by omega), show p + 1 - p = 1 by omega] at e3'
      have e2U : U[0]? = some b := by rw [← h.join, ← hp2]; exact e2'
      refine hP.turn (Seen := Seen) (hT.rise i a b e1 e2') (by have := hU.rise 0 b c e2U e3'; omega) (fun x hx => hT.left i a b x e1 e2' hx) (fun x hx => hU.left 0 b c x e2U e3' hx) (hU.part c (List.mem_of_getElem? e3')) ?_
      by_cases hq : 2 ≤ q
      · obtain ⟨z, hz⟩ := get (l := U) (k := 2) (by rw [h.lenU]; omega)
        exact .inr ⟨z, hU.part z (List.mem_of_getElem? hz), hU.turns 0 b c z e2U e3' hz⟩
      · obtain ⟨z, hz⟩ := get (l := T) (k := i - 1) (by rw [h.lenT]; omega)
        exact .inl ⟨z, hT.part z (List.mem_of_getElem? hz), hT.turns (i - 1) z a b hz (by rw [show i - 1 + 1 = i by omega]; exact e1) (by rw [show i - 1 + 2 = i + 1 by omega]; exact e2')⟩
    · rw [if_neg (by omega)] at e1 e2'
      by_cases hn : i + 1 = p + q
      · -- where the way back ends
        rw [hn, Nat.mod_self, if_pos (by omega)] at e3'
        have e2T : T[0]? = some b := by rw [← h.close, show q = i + 1 - p by omega]; exact e2'
        have e2U : U[i - p + 1]? = some b := by rw [show i - p + 1 = i + 1 - p by omega]; exact e2'
        refine hP.neg.turn (Seen := Seen) (hU.rise (i - p) a b e1 e2U) (by have := hT.rise 0 b c e2T e3'; omega) (fun x hx => hU.left (i - p) a b x e1 e2U hx) (fun x hx => hT.left 0 b c x e2T e3' hx) (hT.part c (List.mem_of_getElem? e3')) ?_
        by_cases hq : 2 ≤ p
        · obtain ⟨z, hz⟩ := get (l := T) (k := 2) (by rw [h.lenT]; omega)
          exact .inr ⟨z, hT.part z (List.mem_of_getElem? hz), hT.turns 0 b c z e2T e3' hz⟩
        · obtain ⟨z, hz⟩ := get (l := U) (k := i - p - 1) (by rw [h.lenU]; omega)
          exact .inl ⟨z, hU.part z (List.mem_of_getElem? hz), hU.turns (i - p - 1) z a b hz (by rw [show i - p - 1 + 1 = i - p by omega]; exact e1) (by rw [show i - p - 1 + 2 = i - p + 1 by omega]; exact e2U)⟩
      · rw [Nat.mod_eq_of_lt (by omega), if_neg (by omega)] at e3'
        exact hU.turns (i - p) a b c e1 (by rw [show i - p + 1 = i + 1 - p by omega]; exact e2') (by rw [show i - p + 2 = i + 1 + 1 - p by omega]; exact e3')
end
end Go.Proofs.Ytgeoffpcmkofkaa
/- Which points are corners. (Pure.) -/
namespace Go.Proofs.Ytgeoffpcmkofkaa
section
variable {α : Type} {D : α → α → α → Int} {K : α → Int} {Seen : α → Prop}
/-- A point from which all others lie left of a way forward, none of them straight behind it, is one of the way there. -/
theorem corner_in (hP : Pl D K) (hA : Aff D K) {way : List α} (hw : WayOK D K Seen way) {x k : α} (hx : Seen x) (hk : K x < K k) (hF : ∀ j, Seen j → 0 ≤ D x k j) (back : ∀ j, Seen j → D x k j = 0 → ¬K j < K x) (inj : ∀ a, Seen a → K a = K x → a = x) : x ∈ way := by
  have ht : ∀ t ∈ way.head?, K x ≤ K t := by
    intro t e
    cases way with
    | nil => simp at e
    | cons t' l =>
      have : t' = t := by simpa using e
      subst this
      exact hw.top t' l rfl x hx
  rcases span hw.falls ht (fun m e => (hw.low m e x hx).1) hw.some (hw.left x hx) with ⟨m, e, e'⟩ | ⟨a, b, h1, h2, h3, h4, h5, h6⟩
  · have : m = x := inj m (hw.part m (by rw [e]; simp)) e'.symm
    rw [e, this]
    simp
  · by_cases ka : K a = K x
    · rw [← inj a (hw.part a h1) ka]; exact h1
    · by_cases kb : K b = K x
      · rw [← inj b (hw.part b h2) kb]; exact h2
      · exfalso
        have e := hA x k a b x
        rw [hP.same] at e
        have fa := hF a (hw.part a h1)
        have fb := hF b (hw.part b h2)
        have a2 := Int.mul_nonneg fb (show 0 ≤ K x - K a by omega)
        have a3 := Int.mul_nonneg h6 (show 0 ≤ K k - K x by omega)
        have z : D x k a = 0 := by
          rcases Int.lt_or_le 0 (D x k a) with hpos | hneg
          · have := Int.mul_pos hpos (show 0 < K b - K x by omega)
            omega
          · omega
        exact back a (hw.part a h1) z (by omega)
/-- A point of the way there, but its last, is such a point: towards the next one. -/
theorem in_corner (hP : Pl D K) {T : List α} (hT : Rises D K Seen T) (first : ∀ f, T[0]? = some f → ∀ j, Seen j → K f ≤ K j) {i : Nat} {x k : α} (e1 : T[i]? = some x) (e2 : T[i + 1]? = some k) : K x < K k ∧ (∀ j, Seen j → 0 ≤ D x k j) ∧ ∀ j, Seen j → D x k j = 0 → ¬K j < K x := by
  have hk := hT.rise i x k e1 e2
  refine ⟨hk, fun j hj => hT.left i x k j e1 e2 hj, fun j hj hz hlt => ?_⟩
  cases i with
  | zero =>
    have := first x e1 j hj
    omega
  | succ i =>
    have hlen : i < T.length := by
      have := (List.getElem?_eq_some_iff.1 e1).1
      omega
    have ea : T[i]? = some T[i] := List.getElem?_eq_getElem hlen
    have t := hT.turns i T[i] x k ea e1 e2
    have l := hT.left i T[i] x j ea e1 hj
    generalize T[i] = a at t l
    -- at x: D x a j * (K k - K x) = D x k j * (K a - K x) - D x k a * (K j - K x)
    have e := hP.pl x k a j
    rw [hz] at e
    have r1 := hP.swp a x j
    have r2 := hP.rot a x k
    have a1 := Int.mul_nonneg l (show 0 ≤ K k - K x by omega)
    have a2 := Int.mul_pos t (show 0 < K x - K j by omega)
    have e3 : D x a j * (K k - K x) = -(D a x j * (K k - K x)) := by rw [r1]; grind
    have e4 : 0 * (K a - K x) - D x k a * (K j - K x) = D a x k * (K x - K j) := by rw [r2]; grind
    omega
end
end Go.Proofs.Ytgeoffpcmkofkaa
/- The two ways of one list make a round. (Pure.) -/
namespace Go.Proofs.Ytgeoffpcmkofkaa
section
variable {α : Type} {D : α → α → α → Int} {K : α → Int} {Seen : α → Prop}
theorem WayOK.two {L : List α} (h : WayOK D K Seen L) {a b : α} (ha : Seen a) (hb : Seen b) (hab : K a < K b) : 2 ≤ L.length := by
  cases L with
  | nil => exact absurd rfl h.some
  | cons t l =>
    cases l with
    | cons u l => simp
    | nil =>
      have h1 := h.top t [] rfl b hb
      have h2 := (h.low t (by simp) a ha).1
      have h3 := h.low t (by simp) b hb
      omega
/-- The first of one is the last of the other. -/
theorem ends_meet {L U : List α} (h : WayOK D K Seen L) (hu : WayOK D (fun x => -K x) Seen U) : L.head? = U.getLast? := by
  cases L with
  | nil => exact absurd rfl h.some
  | cons t l =>
    cases hm : U.getLast? with
    | none => exact absurd (List.getLast?_eq_none_iff.1 hm) hu.some
    | some m =>
      have ht : Seen t := h.part t (by simp)
      have hsm : Seen m := hu.part m (List.mem_of_getLast? hm)
      have h1 := h.top t l rfl m hsm
      have h2 := hu.low m (by rw [hm]; rfl) t ht
      have : t = m := h2.2 (by have := h2.1; omega)
      rw [this]
      rfl
theorem round_of {L U : List α} (h : WayOK D K Seen L) (hu : WayOK D (fun x => -K x) Seen U) {a b : α} (ha : Seen a) (hb : Seen b) (hab : K a < K b) : Round L.reverse U.reverse (L.length - 1) (U.length - 1) := by
  have l2 := h.two ha hb hab
  have u2 := hu.two hb ha (by omega)
  have hu' : WayOK D (fun x => - -K x) Seen L := by
    have e : (fun x => - -K x) = K := by funext x; omega
    rw [e]; exact h
  have m1 := ends_meet h hu
  have m2 := ends_meet hu hu'
  refine ⟨by simp; omega, by simp; omega, by omega, by omega, ?_, ?_⟩
  · rw [List.getElem?_reverse (by omega), List.getElem?_reverse (by omega), show L.length - 1 - (L.length - 1) = 0 by omega, Nat.sub_zero, ← List.head?_eq_getElem?, m1, List.getLast?_eq_getElem?]
  · rw [List.getElem?_reverse (by omega), List.getElem?_reverse (by omega), show U.length - 1 - (U.length - 1) = 0 by omega, Nat.sub_zero, ← List.head?_eq_getElem?, m2, List.getLast?_eq_getElem?]
end
end Go.Proofs.Ytgeoffpcmkofkaa
/- The corner behind a corner is one alone. (Pure.) -/
namespace Go.Proofs.Ytgeoffpcmkofkaa
section
variable {α : Type} {D : α → α → α → Int} {K : α → Int} {Seen : α → Prop}
/-- From x towards k all lie to the left, none straight behind x. -/
structure Towards (D : α → α → α → Int) (K : α → Int) (Seen : α → Prop) (x k : α) : Prop where
  left : ∀ j, Seen j → 0 ≤ D x k j
  ahead : K x < K k → ∀ j, Seen j → D x k j = 0 → ¬K j < K x
  backward : K k < K x → ∀ j, Seen j → D x k j = 0 → ¬K x < K j
  apart : K x ≠ K k
theorem no_between (hP : Pl D K) (hA : Aff D K) {x k a b : α} (h : Towards D K Seen x k) (ha : Seen a) (hb : Seen b) (k1 : K a < K x) (k2 : K x < K b) (hz : D a b x = 0) : False := by
  have e := hA x k a b x
  rw [hP.same, hz] at e
  have fa := h.left a ha
  have fb := h.left b hb
  have a1 := Int.mul_nonneg fa (show 0 ≤ K b - K x by omega)
  have a2 := Int.mul_nonneg fb (show 0 ≤ K x - K a by omega)
  have z1 : D x k a = 0 := by
    rcases Int.lt_or_le 0 (D x k a) with hpos | hneg
    · have := Int.mul_pos hpos (show 0 < K b - K x by omega)
      omega
    · omega
  have z2 : D x k b = 0 := by
    rcases Int.lt_or_le 0 (D x k b) with hpos | hneg
    · have := Int.mul_pos hpos (show 0 < K x - K a by omega)
      omega
    · omega
  rcases Int.lt_or_le (K x) (K k) with hk | hk
  · exact h.ahead hk a ha z1 k1
  · exact h.backward (by have := h.apart; omega) b hb z2 k2
/-- Two corners that both have all at their left, seen from a third, are one. -/
theorem next_one (hP : Pl D K) (hA : Aff D K) {x k k' e e' : α} (hx : Seen x) (hk : Seen k) (hk' : Seen k') (ht : Towards D K Seen x k) (hc : Towards D K Seen k e) (hc' : Towards D K Seen k' e') (h' : 0 ≤ D x k' k) (ne : K k' ≠ K x) : K k' = K k := by
  have h1 := ht.left k' hk'
  have r1 := hP.swp x k k'
  have r2 := hP.rot k x k'
  have hz : D x k k' = 0 := by
    have := hP.rot k' k x
    have := hP.rot x k' k
    have := hP.rot k x k'
    omega
  have hz' : D x k' k = 0 := by
    have := hP.rot k' k x
    have := hP.rot x k' k
    have := hP.swp k' k x
    have := hP.rot x k k'
    omega
  have hs : D k x k' = 0 := by have := hP.swp x k k'; omega
  have hs' : D k' x k = 0 := by have := hP.swp x k' k; omega
  rcases Int.lt_or_le (K x) (K k) with hk1 | hk1
  · have b1 := ht.ahead hk1 k' hk' hz
    rcases Int.lt_trichotomy (K k') (K k) with hq | hq | hq
    · exact (no_between hP hA hc' hx hk (by omega) hq (by have := hP.rot x k k'; omega)).elim
    · exact hq
    · exact (no_between hP hA hc hx hk' hk1 hq hz').elim
  · have hk2 : K k < K x := by have := ht.apart; omega
    have b1 := ht.backward hk2 k' hk' hz
    rcases Int.lt_trichotomy (K k') (K k) with hq | hq | hq
    · exact (no_between hP hA hc hk' hx hq hk2 hs').elim
    · exact hq
    · exact (no_between hP hA hc' hk hx hq (by omega) hs).elim
end
end Go.Proofs.Ytgeoffpcmkofkaa
