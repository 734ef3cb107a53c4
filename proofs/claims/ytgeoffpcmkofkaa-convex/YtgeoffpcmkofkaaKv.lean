/- Several at once: at each step one of them gets smaller. -/
import Derived.Test.YtgeoffpcmkofkaaKu
namespace Go.Proofs.Ytgeoffpcmkofkaa
open Go

/-- One of a list is replaced by a smaller one. -/
inductive One {α : Type} (R : α → α → Prop) : List α → List α → Prop
  | here {x y : α} {l : List α} : R x y → One R (x :: l) (y :: l)
  | there {x : α} {l m : List α} : One R l m → One R (x :: l) (x :: m)
theorem acc_cons {α : Type} {R : α → α → Prop} {x : α} (hx : Acc R x) : ∀ {l : List α}, Acc (One R) l → Acc (One R) (x :: l) := by
  induction hx with
  | intro x hx ihx =>
    intro l hl
    induction hl with
    | intro l hl ihl =>
      refine .intro _ fun m hm => ?_
      cases hm with
      | here h => exact ihx _ h (.intro l hl)
      | there h => exact ihl _ h
theorem acc_one {α : Type} {R : α → α → Prop} : ∀ {l : List α}, (∀ x ∈ l, Acc R x) → Acc (One R) l
  | [], _ => .intro _ fun m hm => by cases hm
  | x :: l, h => acc_cons (h x (by simp)) (acc_one fun y hy => h y (by simp [hy]))

/-- Where a goroutine stands: its own blocks, its frames, the world at its last step. -/
structure Seat where
  own : Nat → Prop
  fr : Frame
  cs : List Frame
  w : World
/-- One step further, behind what others did. -/
def Later (P : Program) (S : Nat → Prop) (x1 x : Seat) : Prop := ∃ w2 es, Keeps x.own S x.w w2 ∧ Step1 P x.fr x.cs w2 x1.fr x1.cs x1.w es ∧ x1.own = own x.own w2 x1.w
section
variable {P : Program} {S : Nat → Prop} {base : List Frame} {Fin : (Nat → Prop) → Frame → World → Prop}
/-- Not yet at the end. -/
def Under (P : Program) (S : Nat → Prop) (base : List Frame) (Fin : (Nat → Prop) → Frame → World → Prop) (x : Seat) : Prop := Runs P S base Fin x.own x.fr x.cs x.w
/-- Steps that are taken on the way, none at the end. -/
def Way (P : Program) (S : Nat → Prop) (base : List Frame) (x1 x : Seat) : Prop := ¬(x.fr.mode = .returning ∧ x.cs = base) ∧ Later P S x1 x
theorem Under.acc {x : Seat} (h : Under P S base Fin x) : Acc (Way P S base) x := by
  obtain ⟨O, fr, cs, w⟩ := x
  unfold Under at h
  simp only at h
  induction h with
  | done hm _ => exact .intro _ fun y hy => absurd ⟨hm, rfl⟩ hy.1
  | step _ _ ih =>
    refine .intro _ fun y hy => ?_
    obtain ⟨_, w2, es, h1, h2, h3⟩ := hy
    obtain ⟨O1, fr1, cs1, w1⟩ := y
    simp only at h1 h2 h3
    subst h3
    exact ih w2 fr1 cs1 w1 es h1 h2
/-- What others do elsewhere does not matter. -/
theorem Runs.keeps {O : Nat → Prop} {fr : Frame} {cs : List Frame} {w w' : World} (h : Runs P S base Fin O fr cs w) (hk : Keeps O S w w') : Runs P S base Fin O fr cs w' := by
  have tr : ∀ {w2}, Keeps O S w' w2 → Keeps O S w w2 := fun k => ⟨Nat.le_trans hk.size k.size, fun r hr => (k.block r hr).trans (hk.block r hr), k.os.trans hk.os, k.output.trans hk.output⟩
  cases h with
  | done hm hf => exact .done hm fun w2 k => hf w2 (tr k)
  | step h1 h2 => exact .step (fun w2 k => h1 w2 (tr k)) fun w2 fr1 cs1 w1 es k hs => h2 w2 fr1 cs1 w1 es (tr k) hs
end
end Go.Proofs.Ytgeoffpcmkofkaa
