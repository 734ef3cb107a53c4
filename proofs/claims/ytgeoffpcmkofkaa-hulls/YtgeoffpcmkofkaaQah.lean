/- Ka; Kb; Kc; Kd: texts laid into one. -/
import Derived.Calls
import Derived.Conc.Events
import Derived.Below
/- Two runs of one piece of code whose blocks bear other numbers: values, memory and operations that are related. (Lone: the run that a contract speaks of. The other: in company, where others make memory too.) -/
namespace Go.Proofs.Ytgeoffpcmkofkaa
open Go

/-- Which block of the lone run stands for which. -/
abbrev BR := Nat → Nat → Prop
def Sub (B B' : BR) : Prop := ∀ r r', B r r' → B' r r'
theorem Sub.refl (B : BR) : Sub B B := fun _ _ h => h
theorem Sub.trans {B B' B'' : BR} (h : Sub B B') (h' : Sub B' B'') : Sub B B'' := fun r r' k => h' r r' (h r r' k)
def ext (B : BR) (r r' : Nat) : BR := fun q q' => B q q' ∨ (q = r ∧ q' = r')
theorem Sub.ext (B : BR) (r r' : Nat) : Sub B (ext B r r') := fun _ _ h => .inl h

variable (G : Nat) (FS : FuncId → Prop)
/-- Blocks from number G on (the program's variables lie below). -/
structure AR (B : BR) (a a' : Addr) : Prop where
  block : B a.block a'.block
  off : a'.off = a.off
  spot : a'.spot = a.spot
  low : G ≤ a.block
theorem AR.mono {G : Nat} {B B' : BR} (h : Sub B B') {a a' : Addr} (k : AR G B a a') : AR G B' a a' := ⟨h _ _ k.block, k.off, k.spot, k.low⟩
theorem AR.add {G : Nat} {B : BR} {a a' : Addr} (k : AR G B a a') (n : Nat) : AR G B (a.add n) (a'.add n) := by
  unfold Addr.add
  by_cases h : n = 0
  · simp [h]; exact k
  · simp only [h, if_false]; exact ⟨k.block, by simp [k.off], rfl, k.low⟩

mutual
inductive VR (B : BR) : Value → Value → Prop
  | bool (b : Bool) : VR B (.bool b) (.bool b)
  | int (k : IntKind) (n : Int) : VR B (.int k n) (.int k n)
  | float (k : FloatKind) (n : Nat) : VR B (.float k n) (.float k n)
  | string (s : ByteArray) : VR B (.string s) (.string s)
  | ptrNil : VR B (.pointer none) (.pointer none)
  | ptr {a a' : Addr} : AR G B a a' → VR B (.pointer (some a)) (.pointer (some a'))
  | sliceNil (l c : Nat) : VR B (.slice none l c) (.slice none l c)
  | slice {a a' : Addr} (l c : Nat) : AR G B a a' → VR B (.slice (some a) l c) (.slice (some a') l c)
  | func (f : FuncId) : FS f → VR B (.func (.func f) #[] #[]) (.func (.func f) #[] #[])
  | nilFunc : VR B .nilFunc .nilFunc
  | nilIface : VR B .nilIface .nilIface
  | mapNil : VR B (.map none) (.map none)
  | chanNil : VR B (.chan none) (.chan none)
  | iface (t : TypeId) {v v' : Value} : VR B v v' → VR B (.iface t v) (.iface t v')
  | agg {cs cs' : Array Value} : VRs B cs.toList cs'.toList → VR B (.agg cs) (.agg cs')
  | tuple {cs cs' : Array Value} : VRs B cs.toList cs'.toList → VR B (.tuple cs) (.tuple cs')
inductive VRs (B : BR) : List Value → List Value → Prop
  | nil : VRs B [] []
  | cons {v v' : Value} {l l' : List Value} : VR B v v' → VRs B l l' → VRs B (v :: l) (v' :: l')
end

section
variable {G : Nat} {FS : FuncId → Prop} {B B' : BR}
mutual
theorem VR.mono (h : Sub B B') : ∀ {v v' : Value}, VR G FS B v v' → VR G FS B' v v'
  | _, _, .bool b => .bool b
  | _, _, .int k n => .int k n
  | _, _, .float k n => .float k n
  | _, _, .string s => .string s
  | _, _, .ptrNil => .ptrNil
  | _, _, .ptr k => .ptr (k.mono h)
  | _, _, .sliceNil l c => .sliceNil l c
  | _, _, .slice l c k => .slice l c (k.mono h)
  | _, _, .func f k => .func f k
  | _, _, .nilFunc => .nilFunc
  | _, _, .nilIface => .nilIface
  | _, _, .mapNil => .mapNil
  | _, _, .chanNil => .chanNil
  | _, _, .iface t k => .iface t (k.mono h)
  | _, _, .agg k => .agg (k.mono h)
  | _, _, .tuple k => .tuple (k.mono h)
theorem VRs.mono (h : Sub B B') : ∀ {l l' : List Value}, VRs G FS B l l' → VRs G FS B' l l'
  | _, _, .nil => .nil
  | _, _, .cons k ks => .cons (k.mono h) (ks.mono h)
end
theorem VRs.length : ∀ {l l' : List Value}, VRs G FS B l l' → l'.length = l.length
  | _, _, .nil => rfl
  | _, _, .cons _ ks => by simp [ks.length]
theorem VRs.get : ∀ {l l' : List Value}, VRs G FS B l l' → ∀ {i : Nat} {v : Value}, l[i]? = some v → ∃ v', l'[i]? = some v' ∧ VR G FS B v v'
  | _, _, .nil, i, v, h => by simp at h
  | _, _, .cons k ks, 0, v, h => by simp at h; subst h; exact ⟨_, rfl, k⟩
  | _, _, .cons k ks, i + 1, v, h => by simpa using ks.get (by simpa using h)
theorem VRs.none : ∀ {l l' : List Value}, VRs G FS B l l' → ∀ {i : Nat}, l[i]? = none → l'[i]? = none := fun h i hi => by
  rw [List.getElem?_eq_none_iff] at hi ⊢
  rw [h.length]; exact hi
theorem VRs.append : ∀ {l l' m m' : List Value}, VRs G FS B l l' → VRs G FS B m m' → VRs G FS B (l ++ m) (l' ++ m')
  | _, _, _, _, .nil, h => h
  | _, _, _, _, .cons k ks, h => .cons k (ks.append h)
theorem VRs.take : ∀ {l l' : List Value}, VRs G FS B l l' → ∀ n, VRs G FS B (l.take n) (l'.take n)
  | _, _, .nil, n => by simp; exact .nil
  | _, _, .cons k ks, 0 => by simp; exact .nil
  | _, _, .cons k ks, n + 1 => by simp; exact .cons k (ks.take n)
theorem VRs.drop : ∀ {l l' : List Value}, VRs G FS B l l' → ∀ n, VRs G FS B (l.drop n) (l'.drop n)
  | _, _, .nil, n => by simp; exact .nil
  | _, _, .cons k ks, 0 => by simp; exact .cons k ks
  | _, _, .cons k ks, n + 1 => by simp; exact ks.drop n
theorem VRs.set : ∀ {l l' : List Value}, VRs G FS B l l' → ∀ (n : Nat) {v v' : Value}, VR G FS B v v' → VRs G FS B (l.set n v) (l'.set n v')
  | _, _, .nil, n, _, _, _ => by simp; exact .nil
  | _, _, .cons _ ks, 0, _, _, h => by simp; exact .cons h ks
  | _, _, .cons k ks, n + 1, _, _, h => by simp; exact .cons k (ks.set n h)
theorem VRs.replicate {v v' : Value} (h : VR G FS B v v') : ∀ n, VRs G FS B (List.replicate n v) (List.replicate n v')
  | 0 => .nil
  | n + 1 => .cons h (VRs.replicate h n)
theorem VRs.of_get : ∀ {l l' : List Value}, l'.length = l.length → (∀ (i : Nat) (v v' : Value), l[i]? = some v → l'[i]? = some v' → VR G FS B v v') → VRs G FS B l l'
  | [], [], _, _ => .nil
  | [], _ :: _, h, _ => by simp at h
  | _ :: _, [], h, _ => by simp at h
  | v :: l, v' :: l', h, k => .cons (k 0 v v' rfl rfl) (VRs.of_get (by simpa using h) fun i x x' hx hx' => k (i + 1) x x' (by simpa using hx) (by simpa using hx'))
end

/-! ### Operations -/
/-- The ways in which an operation may come to nothing here: no wait, no end of the program. -/
def MildH : Halt → Prop
  | .stuck _ | .unsupported _ | .panic _ => True
  | _ => False
def MildT {α : Type} (P : Program) (s : Sem α) : Prop := ∀ w h w', s.run P w = .halt h w' → MildH h
def Dead {α : Type} (P : Program) (s : Sem α) : Prop := (∀ w a w', s.run P w ≠ .ok a w') ∧ MildT P s
section
variable {G} {FS} (P : Program)
/-- One run of s, wherever it comes to its end, is matched by one of s'. -/
inductive SemR {α α' : Type} (Q : BR → α → α' → Prop) : BR → Sem α → Sem α' → Prop
  | pure {B : BR} {a : α} {a' : α'} : Q B a a' → SemR Q B (.pure a) (.pure a')
  | load {B : BR} {a a' : Addr} {k : Value → Sem α} {k' : Value → Sem α'} : AR G B a a' → (∀ v v', VR G FS B v v' → SemR Q B (k v) (k' v')) → SemR Q B (.load .plain a k) (.load .plain a' k')
  | store {B : BR} {a a' : Addr} {v v' : Value} {k : Sem α} {k' : Sem α'} : AR G B a a' → VR G FS B v v' → SemR Q B k k' → SemR Q B (.store .plain a v k) (.store .plain a' v' k')
  | new {B : BR} {c c' : Array Value} {e : TypeId} {k : Nat → Sem α} {k' : Nat → Sem α'} : VRs G FS B c.toList c'.toList → (∀ r r', G ≤ r → SemR Q (ext B r r') (k r) (k' r')) → SemR Q B (.new (.cells c e) k) (.new (.cells c' e) k')
  | newNum {B : BR} {a a' : Addr} {l : Bool} {k : Nat → Sem α} {k' : Nat → Sem α'} : AR G B a a' → (∀ r r', G ≤ r → SemR Q (ext B r r') (k r) (k' r')) → SemR Q B (.new (.number a l) k) (.new (.number a' l) k')
  | getNum {B : BR} {r r' : Nat} {k : Obj → Sem α} {k' : Obj → Sem α'} : B r r' → (∀ a a' l, AR G B a a' → SemR Q B (k (.number a l)) (k' (.number a' l))) → SemR Q B (.getObj r k) (.getObj r' k')
  | shape {B : BR} {r r' : Nat} {k : Option (TypeId × Nat) → Sem α} {k' : Option (TypeId × Nat) → Sem α'} : B r r' → (∀ s, SemR Q B (k s) (k' s)) → SemR Q B (.shape r k) (.shape r' k')
  | choose {B : BR} {q : Question} {k : Nat → Sem α} {k' : Nat → Sem α'} : (∀ n, SemR Q B (k n) (k' n)) → SemR Q B (.choose q k) (.choose q k')
  | program {B : BR} {k : Program → Sem α} {k' : Program → Sem α'} : SemR Q B (k P) (k' P) → SemR Q B (.program k) (.program k')
  | mark {B : BR} {m : Mark} {k : Sem α} {k' : Sem α'} : (m = .noRoom ∨ ∃ f, m = .extern f) → SemR Q B k k' → SemR Q B (.mark m k) (.mark m k')
  | dead {B : BR} {s : Sem α} {s' : Sem α'} : Dead P s → SemR Q B s s'
end

section
variable {G : Nat} {FS : FuncId → Prop} {P : Program} {α α' β β' : Type} {Q : BR → α → α' → Prop} {Q' : BR → β → β' → Prop} {B : BR}
theorem run_bind {s : Sem α} {f : α → Sem β} {w : World} {b : β} {w' : World} (h : (s.bind f).run P w = .ok b w') : ∃ a w₁, s.run P w = .ok a w₁ ∧ (f a).run P w₁ = .ok b w' := by
  rw [← Sem.runT_fst P _ w #[], Sem.runT_bind'] at h
  rw [← Sem.runT_fst P s w #[]]
  cases hs : s.runT P w #[] with
  | mk r es =>
    rw [hs] at h
    cases r with
    | ok a w₁ =>
      simp only at h
      rw [Sem.runT_fst] at h
      exact ⟨a, w₁, rfl, h⟩
    | halt _ _ => cases h
theorem halt_bind {s : Sem α} {f : α → Sem β} {w : World} {h : Halt} {w' : World} (k : (s.bind f).run P w = .halt h w') : s.run P w = .halt h w' ∨ ∃ a w₁, s.run P w = .ok a w₁ ∧ (f a).run P w₁ = .halt h w' := by
  rw [← Sem.runT_fst P _ w #[], Sem.runT_bind'] at k
  rw [← Sem.runT_fst P s w #[]]
  cases hs : s.runT P w #[] with
  | mk r es =>
    rw [hs] at k
    cases r with
    | ok a w₁ =>
      simp only at k
      rw [Sem.runT_fst] at k
      exact .inr ⟨a, w₁, rfl, k⟩
    | halt h' w₂ =>
      simp only at k
      injection k with k1 k2
      subst k1 k2
      exact .inl rfl
theorem m_bind {s : Sem α} {f : α → Sem β} (h : MildT P s) (k : ∀ a, MildT P (f a)) : MildT P (s.bind f) := fun w x w' hr => by
  rcases halt_bind hr with q | ⟨a, w₁, _, q⟩
  · exact h _ _ _ q
  · exact k a _ _ _ q
theorem m_pure (a : α) : MildT P (pure a : Sem α) := fun w h w' hr => by cases hr
theorem m_program : MildT P program := fun w h w' hr => by cases hr
theorem m_choose (q : Question) : MildT P (choose q) := fun w h w' hr => by
  simp only [choose, Sem.run] at hr
  split at hr <;> cases hr
theorem m_mark (m : Mark) : MildT P (mark m) := fun w h w' hr => by cases hr
theorem m_shape (r : Nat) : MildT P (shape r) := fun w h w' hr => by cases hr
theorem m_frozen (a : Addr) : MildT P (frozen a) := fun w h w' hr => by cases hr
theorem m_new (o : Obj) : MildT P (newObj o) := fun w h w' hr => by cases hr
theorem m_sys (c : Sys) : MildT P (sys c) := fun w h w' hr => by cases hr
theorem m_stuck (why : String) : MildT P (stuck why : Sem α) := fun w h w' hr => by cases hr; trivial
theorem m_unsupported (u : Unsupported) : MildT P (unsupported u : Sem α) := fun w h w' hr => by cases hr; trivial
theorem m_goPanic (v : Value) : MildT P (goPanic v : Sem α) := fun w h w' hr => by cases hr; trivial
theorem m_typeInfo (t : TypeId) : MildT P (typeInfo t) := by
  refine m_bind m_program fun p => ?_
  split
  · exact m_pure _
  · exact m_stuck _
theorem m_underlying (t : TypeId) : MildT P (underlying t) := by
  refine m_bind m_program fun p => ?_
  split
  · exact m_pure _
  · exact m_stuck _
theorem m_asIntOf (v : Value) : MildT P (asIntOf v) := by
  unfold asIntOf
  split
  · exact m_pure _
  · exact m_unsupported _
  · exact m_stuck _
theorem m_asInt (v : Value) : MildT P (asInt v) := m_bind (m_asIntOf v) fun _ => m_pure _
theorem dead_bind {s : Sem α} {f : α → Sem β} (h : Dead P s) : Dead P (s.bind f) := by
  refine ⟨fun w b w' k => ?_, fun w x w' hr => ?_⟩
  · obtain ⟨a, w₁, h1, _⟩ := run_bind k
    exact h.1 w a w₁ h1
  · rcases halt_bind hr with q | ⟨a, w₁, q, _⟩
    · exact h.2 _ _ _ q
    · exact absurd q (h.1 _ _ _)
theorem dead_then {s : Sem α} {f : α → Sem β} (m : MildT P s) (h : ∀ a, Dead P (f a)) : Dead P (s.bind f) := by
  refine ⟨fun w b w' k => ?_, m_bind m fun a => (h a).2⟩
  obtain ⟨a, w₁, _, h1⟩ := run_bind k
  exact (h a).1 w₁ b w' h1
theorem dead_stuck (why : String) : Dead P (stuck why : Sem α) := ⟨fun _ _ _ h => (nomatch h), m_stuck _⟩
theorem dead_unsupported (u : Unsupported) : Dead P (unsupported u : Sem α) := ⟨fun _ _ _ h => (nomatch h), m_unsupported _⟩
theorem dead_goPanic (v : Value) : Dead P (goPanic v : Sem α) := ⟨fun _ _ _ h => (nomatch h), m_goPanic _⟩

theorem SemR.bind {s : Sem α} {s' : Sem α'} (h : SemR (G := G) (FS := FS) P Q B s s') {f : α → Sem β} {f' : α' → Sem β'} (hf : ∀ B', Sub B B' → ∀ a a', Q B' a a' → SemR (G := G) (FS := FS) P Q' B' (f a) (f' a')) : SemR (G := G) (FS := FS) P Q' B (s.bind f) (s'.bind f') := by
  induction h with
  | pure hq => exact hf _ (Sub.refl _) _ _ hq
  | load ha _ ih => exact .load ha fun v v' hv => ih v v' hv hf
  | store ha hv _ ih => exact .store ha hv (ih hf)
  | new hc _ ih => exact .new hc fun r r' hr => ih r r' hr fun B' hB => hf B' ((Sub.ext _ r r').trans hB)
  | newNum hc _ ih => exact .newNum hc fun r r' hr => ih r r' hr fun B' hB => hf B' ((Sub.ext _ r r').trans hB)
  | getNum hb _ ih => exact .getNum hb fun a a' l ha => ih a a' l ha hf
  | shape hb _ ih => exact .shape hb fun s => ih s hf
  | choose _ ih => exact .choose fun n => ih n hf
  | program _ ih => exact .program (ih hf)
  | mark hm _ ih => exact .mark hm (ih hf)
  | dead hd => exact .dead (dead_bind hd)
theorem SemR.mono {s : Sem α} {s' : Sem α'} {Q₂ : BR → α → α' → Prop} (h : SemR (G := G) (FS := FS) P Q B s s') (hq : ∀ B a a', Q B a a' → Q₂ B a a') : SemR (G := G) (FS := FS) P Q₂ B s s' := by
  induction h with
  | pure h => exact .pure (hq _ _ _ h)
  | load ha _ ih => exact .load ha ih
  | store ha hv _ ih => exact .store ha hv ih
  | new hc _ ih => exact .new hc ih
  | newNum hc _ ih => exact .newNum hc ih
  | getNum hb _ ih => exact .getNum hb ih
  | shape hb _ ih => exact .shape hb ih
  | choose _ ih => exact .choose ih
  | program _ ih => exact .program ih
  | mark hm _ ih => exact .mark hm ih
  | dead hd => exact .dead hd
end

/-! ### Memory -/
variable (Sh : Nat → Prop)
inductive ObR (B : BR) (r : Nat) : Obj → Obj → Prop
  | cells {c c' : Array Value} {e : TypeId} {fr : Nat × Nat} : VRs G FS B c.toList c'.toList → (Sh r → fr = (0, c.size)) → (¬Sh r → fr = (0, 0)) → ObR B r (.cells c e fr) (.cells c' e (0, 0))
  | number {a a' : Addr} {l : Bool} : AR G B a a' → ¬Sh r → ObR B r (.number a l) (.number a' l)
/-- The two worlds: block by block; what is shared is frozen in the lone one, so that no lone run writes there; the tapes go on alike. -/
structure WR (B : BR) (wl w : World) : Prop where
  blk : ∀ r r', B r r' → ∃ o o', wl.heap[r]? = some o ∧ w.heap[r']? = some o' ∧ ObR G FS Sh B r o o'
  fn : ∀ r r' q', B r r' → B r q' → r' = q'
  inj : ∀ r q r', B r r' → B q r' → r = q
  low : ∀ r, Sh r → r < wl.heap.size
  glob : G ≤ wl.heap.size
  tape : ∀ i q, wl.tape (wl.drawn + i) q = w.tape (w.drawn + i) q
/-- What the other run did to its world. -/
structure Did (B B' : BR) (w w' : World) : Prop where
  os : w'.os = w.os
  tape : w'.tape = w.tape
  output : w'.output = w.output
  size : w.heap.size ≤ w'.heap.size
  kept : ∀ r', r' < w.heap.size → (∀ r, B r r' → Sh r) → w'.heap[r']? = w.heap[r']?
  sub : Sub B B'
  new : ∀ r r', B' r r' → B r r' ∨ (w.heap.size ≤ r' ∧ r' < w'.heap.size ∧ ¬Sh r)
/-- What it lists. -/
def EvOK (B : BR) (e : Event) : Prop :=
  (∃ a : Addr, e = ⟨.cell a, false, false⟩ ∧ ∃ r, B r a.block) ∨ (∃ a : Addr, e = ⟨.cell a, true, false⟩ ∧ ∃ r, B r a.block ∧ ¬Sh r) ∨ (∃ m, e = ⟨.mark m, false, true⟩ ∧ (m = .noRoom ∨ ∃ f, m = .extern f)) ∨ (∃ r', e = ⟨.obj r', false, false⟩ ∧ ∃ r, B r r' ∧ ¬Sh r)

section
variable {G : Nat} {FS : FuncId → Prop} {Sh : Nat → Prop} {B B' B'' : BR} {w w' w'' : World}
theorem ObR.mono (h : Sub B B') {r : Nat} {o o' : Obj} (k : ObR G FS Sh B r o o') : ObR G FS Sh B' r o o' := by
  cases k with
  | cells h1 h2 h3 => exact .cells (h1.mono h) h2 h3
  | number h1 h2 => exact .number (h1.mono h) h2
theorem Did.refl (B : BR) (w : World) : Did Sh B B w w := ⟨rfl, rfl, rfl, Nat.le_refl _, fun _ _ _ => rfl, Sub.refl _, fun _ _ h => .inl h⟩
theorem Did.trans (h : Did Sh B B' w w') (k : Did Sh B' B'' w' w'') : Did Sh B B'' w w'' := by
  refine ⟨k.os.trans h.os, k.tape.trans h.tape, k.output.trans h.output, Nat.le_trans h.size k.size, fun r' hr hs => ?_, h.sub.trans k.sub, fun r r' hb => ?_⟩
  · refine (k.kept r' (Nat.lt_of_lt_of_le hr h.size) fun r hb => ?_).trans (h.kept r' hr hs)
    rcases h.new r r' hb with q | ⟨q, _⟩
    · exact hs r q
    · omega
  · rcases k.new r r' hb with q | ⟨q1, q2, q3⟩
    · rcases h.new r r' q with q | ⟨q1, q2, q3⟩
      · exact .inl q
      · exact .inr ⟨q1, Nat.lt_of_lt_of_le q2 k.size, q3⟩
    · exact .inr ⟨Nat.le_trans h.size q1, q2, q3⟩
theorem EvOK.mono (h : Sub B B') {e : Event} (k : EvOK Sh B e) : EvOK Sh B' e := by
  rcases k with ⟨a, e1, r, hb⟩ | ⟨a, e1, r, hb, hs⟩ | k | ⟨r', e1, r, hb, hs⟩
  · exact .inl ⟨a, e1, r, h _ _ hb⟩
  · exact .inr (.inl ⟨a, e1, r, h _ _ hb, hs⟩)
  · exact .inr (.inr (.inl k))
  · exact .inr (.inr (.inr ⟨r', e1, r, h _ _ hb, hs⟩))

theorem cell_block {w : World} {a : Addr} {v : Value} (h : w.cell? a = some v) : ∃ c e fr, w.heap[a.block]? = some (.cells c e fr) ∧ a.spot = none ∧ c[a.off]? = some v := by
  unfold World.cell? at h
  split at h
  · rename_i c e fr hc
    by_cases hs : a.spot.isSome = true
    · simp [hs] at h
    · simp only [hs] at h
      exact ⟨c, e, fr, hc, by simpa using hs, by simpa using h⟩
  · cases h
theorem WR.cells {wl : World} (h : WR G FS Sh B wl w) {r r' : Nat} (hb : B r r') {c : Array Value} {e : TypeId} {fr : Nat × Nat} (hc : wl.heap[r]? = some (.cells c e fr)) : ∃ c', w.heap[r']? = some (.cells c' e (0, 0)) ∧ VRs G FS B c.toList c'.toList ∧ (Sh r → fr = (0, c.size)) ∧ (¬Sh r → fr = (0, 0)) := by
  obtain ⟨o, o', h1, h2, h3⟩ := h.blk r r' hb
  rw [hc] at h1
  cases h1
  cases h3 with
  | cells k1 k2 k3 => exact ⟨_, h2, k1, k2, k3⟩
theorem WR.cell {wl : World} (h : WR G FS Sh B wl w) {a a' : Addr} (ha : AR G B a a') {v : Value} (hv : wl.cell? a = some v) : ∃ v', w.cell? a' = some v' ∧ VR G FS B v v' := by
  obtain ⟨c, e, fr, h1, hsp, hv⟩ := cell_block hv
  obtain ⟨c', h2, h3, _⟩ := h.cells ha.block h1
  obtain ⟨v', e1, e2⟩ := h3.get (i := a.off) (v := v) (by simpa using hv)
  refine ⟨v', ?_, e2⟩
  simp only [World.cell?, h2, ha.spot, hsp, ha.off]
  simpa using e1
theorem WR.far {wl : World} {P : Program} (h : WR G FS Sh B wl w) {a a' : Addr} (ha : AR G B a a') (b : Bool) : (∀ x, wl.farLoad P a b ≠ .ok x) ∧ ∀ v x, wl.farStore P a v b ≠ .ok x := by
  obtain ⟨o, o', h1, _, h3⟩ := h.blk _ _ ha.block
  cases h3 <;> exact ⟨fun x => by simp [World.farLoad, h1], fun v x => by simp [World.farStore, h1]⟩
end
end Go.Proofs.Ytgeoffpcmkofkaa
/- A run of the lone piece is matched by one of the other. -/
namespace Go.Proofs.Ytgeoffpcmkofkaa
open Go

section
variable {G : Nat} {FS : FuncId → Prop} {Sh : Nat → Prop} {B : BR} {wl w : World}
theorem heap_set_same {w : World} {a : Addr} {v : Value} {c : Array Value} {e : TypeId} {fr : Nat × Nat} (h : w.heap[a.block]? = some (.cells c e fr)) (hs : a.spot = none) : (w.setCell a v).heap[a.block]? = some (.cells (c.setIfInBounds a.off v) e fr) := by
  obtain ⟨hlt, hk⟩ := Array.getElem?_eq_some_iff.1 h
  show (w.heap.modify a.block _)[a.block]? = _
  rw [Array.getElem?_eq_getElem (by rw [Array.size_modify]; exact hlt), Array.getElem_modify_self, hk]
  simp [hs]
theorem heap_set_other {w : World} {a : Addr} {v : Value} {r : Nat} (h : r ≠ a.block) : (w.setCell a v).heap[r]? = w.heap[r]? := by
  exact Go.RowKit.Below.heap_setCell w a v r h
theorem heap_set_size (w : World) (a : Addr) (v : Value) : (w.setCell a v).heap.size = w.heap.size := by simp [World.setCell]

theorem WR.not_shared (h : WR G FS Sh B wl w) {a a' : Addr} (ha : AR G B a a') {v : Value} (hv : wl.cell? a = some v) (hf : wl.frozen? a = false) : ¬Sh a.block := by
  intro hs
  obtain ⟨c, e, fr, k1, k2, k3⟩ := cell_block hv
  obtain ⟨c', h2, h3, h4, _⟩ := h.cells ha.block k1
  have := h4 hs
  subst this
  have hlt : a.off < c.size := (Array.getElem?_eq_some_iff.1 k3).1
  simp [World.frozen?, k1, hlt] at hf
theorem WR.frozen (h : WR G FS Sh B wl w) {a a' : Addr} (ha : AR G B a a') : w.frozen? a' = false := by
  obtain ⟨o, o', h1, h2, h3⟩ := h.blk _ _ ha.block
  cases h3 <;> simp [World.frozen?, h2]
theorem WR.set (h : WR G FS Sh B wl w) {a a' : Addr} (ha : AR G B a a') {v v' u : Value} (hu : wl.cell? a = some u) (hv : VR G FS B v v') : WR G FS Sh B (wl.setCell a v) (w.setCell a' v') := by
  obtain ⟨c1, e1, fr1, k1, k2, k3⟩ := cell_block hu
  refine ⟨fun r r' hb => ?_, h.fn, h.inj, fun r hs => by rw [heap_set_size]; exact h.low r hs, by rw [heap_set_size]; exact h.glob, h.tape⟩
  by_cases hr : r = a.block
  · subst hr
    have hr' : r' = a'.block := h.fn _ _ _ hb ha.block
    subst hr'
    obtain ⟨c', h2, h3, h4, h5⟩ := h.cells hb k1
    refine ⟨_, _, heap_set_same k1 k2, heap_set_same h2 (by rw [ha.spot, k2]), .cells ?_ (fun hs => by rw [Array.size_setIfInBounds]; exact h4 hs) h5⟩
    rw [Array.toList_setIfInBounds, Array.toList_setIfInBounds, ha.off]
    exact h3.set _ hv
  · have hr' : r' ≠ a'.block := fun e => hr (h.inj _ _ _ (e ▸ hb) ha.block)
    obtain ⟨o, o', h1, h2, h3⟩ := h.blk r r' hb
    exact ⟨o, o', (heap_set_other hr).trans h1, (heap_set_other hr').trans h2, h3⟩
theorem did_set {w : World} {a a' : Addr} (ha : AR G B a a') (hs : ¬Sh a.block) (v' : Value) : Did Sh B B w (w.setCell a' v') := by
  refine ⟨rfl, rfl, rfl, by rw [heap_set_size]; exact Nat.le_refl _, fun r' hr k => heap_set_other fun e => hs ?_, Sub.refl _, fun _ _ hb => .inl hb⟩
  subst e
  exact k _ ha.block
theorem WR.lt (h : WR G FS Sh B wl w) {r r' : Nat} (hb : B r r') : r < wl.heap.size ∧ r' < w.heap.size := by
  obtain ⟨o, o', h1, h2, _⟩ := h.blk _ _ hb
  exact ⟨(Array.getElem?_eq_some_iff.1 h1).1, (Array.getElem?_eq_some_iff.1 h2).1⟩
theorem WR.new (h : WR G FS Sh B wl w) {o o' : Obj} (hc : ¬Sh wl.heap.size → ObR G FS Sh B wl.heap.size o o') : WR G FS Sh (ext B wl.heap.size w.heap.size) { wl with heap := wl.heap.push o } { w with heap := w.heap.push o' } := by
  have lt : ∀ {r r'}, B r r' → r < wl.heap.size ∧ r' < w.heap.size := fun hb => h.lt hb
  refine ⟨fun r r' hb => ?_, fun r r' q' h1 h2 => ?_, fun r q r' h1 h2 => ?_, fun r hs => by have := h.low r hs; simp; omega, by have := h.glob; simp; omega, h.tape⟩
  · rcases hb with hb | ⟨rfl, rfl⟩
    · obtain ⟨o1, o1', h1, h2, h3⟩ := h.blk r r' hb
      have := lt hb
      refine ⟨o1, o1', ?_, ?_, h3.mono (Sub.ext _ _ _)⟩
      · show (wl.heap.push _)[r]? = _
        rw [Array.getElem?_push_lt this.1, ← Array.getElem?_eq_getElem this.1]; exact h1
      · show (w.heap.push _)[r']? = _
        rw [Array.getElem?_push_lt this.2, ← Array.getElem?_eq_getElem this.2]; exact h2
    · exact ⟨o, o', by simp, by simp, (hc fun hs => absurd (h.low _ hs) (Nat.lt_irrefl _)).mono (Sub.ext _ _ _)⟩
  · rcases h1 with h1 | ⟨h1, h1'⟩ <;> rcases h2 with h2 | ⟨h2, h2'⟩
    · exact h.fn _ _ _ h1 h2
    · have := (lt h1).1; omega
    · have := (lt h2).1; omega
    · rw [h1', h2']
  · rcases h1 with h1 | ⟨h1, h1'⟩ <;> rcases h2 with h2 | ⟨h2, h2'⟩
    · exact h.inj _ _ _ h1 h2
    · have := (lt h1).2; omega
    · have := (lt h2).2; omega
    · rw [h1, h2]
theorem did_new (h : WR G FS Sh B wl w) (o : Obj) : Did Sh B (ext B wl.heap.size w.heap.size) w { w with heap := w.heap.push o } := by
  refine ⟨rfl, rfl, rfl, by simp, fun r' hr _ => ?_, Sub.ext _ _ _, fun r r' hb => ?_⟩
  · show (w.heap.push o)[r']? = _
    rw [Array.getElem?_push_lt hr, ← Array.getElem?_eq_getElem hr]
  · rcases hb with hb | ⟨rfl, rfl⟩
    · exact .inl hb
    · exact .inr ⟨Nat.le_refl _, by simp, fun hs => absurd (h.low _ hs) (Nat.lt_irrefl _)⟩
theorem WR.shape (h : WR G FS Sh B wl w) {r r' : Nat} (hb : B r r') : w.shape? r' = wl.shape? r := by
  obtain ⟨o, o', h1, h2, h3⟩ := h.blk r r' hb
  cases h3 with
  | cells k1 _ _ =>
    simp only [World.shape?, h1, h2]
    have := k1.length
    simp only [Array.length_toList] at this
    rw [this]
  | number _ _ => simp only [World.shape?, h1, h2]
theorem WR.draw (h : WR G FS Sh B wl w) : WR G FS Sh B { wl with drawn := wl.drawn + 1 } { w with drawn := w.drawn + 1 } :=
  ⟨h.blk, h.fn, h.inj, h.low, h.glob, fun i q => by have := h.tape (1 + i) q; simpa [Nat.add_assoc] using this⟩
end

section
variable {G : Nat} {FS : FuncId → Prop} {Sh : Nat → Prop} {P : Program} {α α' : Type} {Q : BR → α → α' → Prop}
/-- What the other run comes to. -/
def Comes' (G : Nat) (FS : FuncId → Prop) (Sh : Nat → Prop) (P : Program) (Q : BR → α → α' → Prop) (B : BR) (s' : Sem α') (w : World) (es : Array Event) (a : α) (wl' : World) : Prop :=
  ∃ B' a' w' es', s'.runT P w es = (.ok a' w', es') ∧ Q B' a a' ∧ WR G FS Sh B' wl' w' ∧ Did Sh B B' w w' ∧ ∀ e ∈ es', e ∈ es ∨ EvOK Sh B' e

theorem SemR.run {B : BR} {s : Sem α} {s' : Sem α'} (h : SemR (G := G) (FS := FS) P Q B s s') : ∀ {wl w : World} {a : α} {wl' : World} (es : Array Event), WR G FS Sh B wl w → s.run P wl = .ok a wl' → Comes' G FS Sh P Q B s' w es a wl' := by
  induction h with
  | pure hq =>
    intro wl w a wl' es hw hr
    simp only [Sem.run] at hr
    cases hr
    exact ⟨_, _, w, es, rfl, hq, hw, Did.refl _ _, fun e he => .inl he⟩
  | @load B a a' k k' ha _ ih =>
    intro wl w x wl' es hw hr
    simp only [Sem.run] at hr
    cases hc : wl.cell? a with
    | none =>
      rw [hc] at hr
      simp only at hr
      have := (hw.far (P := P) ha (Mode.plain == .atomic)).1
      split at hr
      · rename_i hf; exact absurd hf (this _)
      · cases hr
    | some v =>
      rw [hc] at hr
      obtain ⟨v', hv', hvr⟩ := hw.cell ha hc
      obtain ⟨B', a2, w', es', h1, h2, h3, h4, h5⟩ := ih v v' hvr (es.push ⟨.cell a', false, false⟩) hw hr
      refine ⟨B', a2, w', es', ?_, h2, h3, h4, fun e he => ?_⟩
      · simp only [Sem.runT, hv']
        exact h1
      · rcases h5 e he with q | q
        · rcases Array.mem_push.1 q with q | q
          · exact .inl q
          · exact .inr (.inl ⟨a', q, _, h4.sub _ _ ha.block⟩)
        · exact .inr q
  | @store B a a' v v' k k' ha hv _ ih =>
    intro wl w x wl' es hw hr
    have key : ∀ (hag : ∀ cs, v ≠ .agg cs) (htu : ∀ cs, v ≠ .tuple cs), Comes' G FS Sh P Q B (.store .plain a' v' k') w es x wl' := by
      intro hag htu
      have e1 : (Sem.store .plain a v k).run P wl = match wl.cell? a with
          | some _ => if wl.frozen? a then .halt (.unsupported (.unsafePointer "a write to bytes that a string shares")) wl else k.run P (wl.setCell a v)
          | none => match wl.farStore P a v (Mode.plain == .atomic) with
            | .ok (w, _) => k.run P w
            | .error h => .halt h wl := by
        cases v <;> first | rfl | exact absurd rfl (hag _) | exact absurd rfl (htu _)
      have e2 : (Sem.store .plain a' v' k').runT P w es = match w.cell? a' with
          | some _ =>
            if w.frozen? a' then (.halt (.unsupported (.unsafePointer "a write to bytes that a string shares")) w, es)
            else k'.runT P (w.setCell a' v') (es.push ⟨.cell a', true, Mode.plain == .atomic⟩)
          | none => match w.farStore P a' v' (Mode.plain == .atomic) with
            | .ok (w, touched) => k'.runT P w (es ++ touched.toArray.map (⟨.cell ·, true, Mode.plain == .atomic⟩))
            | .error h => (.halt h w, es) := by
        cases hv <;> first | rfl | exact absurd rfl (hag _) | exact absurd rfl (htu _)
      rw [e1] at hr
      cases hc : wl.cell? a with
      | none =>
        rw [hc] at hr
        simp only at hr
        have := (hw.far (P := P) ha (Mode.plain == .atomic)).2 v
        split at hr
        · rename_i hf; exact absurd hf (this _)
        · cases hr
      | some u =>
        rw [hc] at hr
        simp only at hr
        by_cases hf : wl.frozen? a = true
        · rw [if_pos hf] at hr; cases hr
        · rw [if_neg hf] at hr
          obtain ⟨u', hu', _⟩ := hw.cell ha hc
          have hns := hw.not_shared ha hc (by simpa using hf)
          obtain ⟨B', a2, w', es', h1, h2, h3, h4, h5⟩ := ih (es.push ⟨.cell a', true, false⟩) (hw.set ha hc hv) hr
          refine ⟨B', a2, w', es', ?_, h2, h3, (did_set ha hns v').trans h4, fun e he => ?_⟩
          · rw [e2, hu']
            simp only [hw.frozen ha]
            exact h1
          · rcases h5 e he with q | q
            · rcases Array.mem_push.1 q with q | q
              · exact .inl q
              · exact .inr (.inr (.inl ⟨a', q, _, h4.sub _ _ ha.block, hns⟩))
            · exact .inr q
    cases v with
    | agg cs => simp [Sem.run] at hr
    | tuple cs => simp [Sem.run] at hr
    | _ => exact key (fun _ h => by cases h) (fun _ h => by cases h)
  | @getNum B r r' k k' hb _ ih =>
    intro wl w x wl' es hw hr
    obtain ⟨o, o', g1, g2, g3⟩ := hw.blk r r' hb
    simp only [Sem.run, g1] at hr
    cases g3 with
    | cells _ _ _ => simp at hr
    | @number a a' l ha hns =>
      simp only at hr
      obtain ⟨B', a2, w', es', h1, h2, h3, h4, h5⟩ := ih a a' l ha (es.push ⟨.obj r', false, false⟩) hw hr
      refine ⟨B', a2, w', es', ?_, h2, h3, h4, fun e he => ?_⟩
      · simp only [Sem.runT, g2]
        exact h1
      · rcases h5 e he with q | q
        · rcases Array.mem_push.1 q with q | q
          · exact .inl q
          · exact .inr (.inr (.inr (.inr ⟨r', q, r, h4.sub _ _ hb, hns⟩)))
        · exact .inr q
  | @newNum B a a' l k k' ha _ ih =>
    intro wl w x wl' es hw hr
    simp only [Sem.run] at hr
    obtain ⟨B', a2, w', es', h1, h2, h3, h4, h5⟩ := ih wl.heap.size w.heap.size hw.glob es (hw.new fun hs => .number ha hs) hr
    refine ⟨B', a2, w', es', ?_, h2, h3, (did_new hw _).trans h4, h5⟩
    simp only [Sem.runT]
    exact h1
  | @new B c c' e k k' hc _ ih =>
    intro wl w x wl' es hw hr
    simp only [Sem.run] at hr
    obtain ⟨B', a2, w', es', h1, h2, h3, h4, h5⟩ := ih wl.heap.size w.heap.size hw.glob es (hw.new fun hs => .cells hc (fun k => absurd k hs) fun _ => rfl) hr
    refine ⟨B', a2, w', es', ?_, h2, h3, (did_new hw _).trans h4, h5⟩
    simp only [Sem.runT]
    exact h1
  | @shape B r r' k k' hb _ ih =>
    intro wl w x wl' es hw hr
    simp only [Sem.run] at hr
    obtain ⟨B', a2, w', es', h1, h2, h3, h4, h5⟩ := ih _ es hw hr
    refine ⟨B', a2, w', es', ?_, h2, h3, h4, h5⟩
    simp only [Sem.runT, hw.shape hb]
    exact h1
  | @choose B q k k' _ ih =>
    intro wl w x wl' es hw hr
    simp only [Sem.run] at hr
    by_cases hq : q.forced = true
    · rw [if_pos hq] at hr
      obtain ⟨B', a2, w', es', h1, h2, h3, h4, h5⟩ := ih _ es hw hr
      refine ⟨B', a2, w', es', ?_, h2, h3, h4, h5⟩
      simp only [Sem.runT, if_pos hq]
      exact h1
    · rw [if_neg hq] at hr
      have ht := hw.tape 0 q
      simp only [Nat.add_zero] at ht
      rw [ht] at hr
      obtain ⟨B', a2, w', es', h1, h2, h3, h4, h5⟩ := ih _ es hw.draw hr
      refine ⟨B', a2, w', es', ?_, h2, h3, ⟨h4.os, h4.tape, h4.output, h4.size, h4.kept, h4.sub, h4.new⟩, h5⟩
      simp only [Sem.runT, if_neg hq]
      exact h1
  | program _ ih =>
    intro wl w x wl' es hw hr
    simp only [Sem.run] at hr
    obtain ⟨B', a2, w', es', h1, h2, h3, h4, h5⟩ := ih es hw hr
    exact ⟨B', a2, w', es', by simp only [Sem.runT]; exact h1, h2, h3, h4, h5⟩
  | @mark B m k k' hm _ ih =>
    intro wl w x wl' es hw hr
    simp only [Sem.run] at hr
    obtain ⟨B', a2, w', es', h1, h2, h3, h4, h5⟩ := ih (es.push ⟨.mark m, false, true⟩) hw hr
    refine ⟨B', a2, w', es', by simp only [Sem.runT]; exact h1, h2, h3, h4, fun e he => ?_⟩
    rcases h5 e he with q | q
    · rcases Array.mem_push.1 q with q | q
      · exact .inl q
      · exact .inr (.inr (.inr (.inl ⟨m, q, hm⟩)))
    · exact .inr q
  | dead hd =>
    intro wl w x wl' es _ hr
    exact absurd hr (hd.1 _ _ _)
end
end Go.Proofs.Ytgeoffpcmkofkaa
/- Operations that read and write memory are matched: loads, stores, new rows, addresses. -/
namespace Go.Proofs.Ytgeoffpcmkofkaa
open Go

section
variable {G : Nat} {FS : FuncId → Prop} {P : Program} {α α' β β' : Type} {Q : BR → α → α' → Prop} {Q' : BR → β → β' → Prop} {B : BR}
/-- The very same. -/
def EqQ {γ : Type} : BR → γ → γ → Prop := fun _ a a' => a' = a
abbrev VQ (G : Nat) (FS : FuncId → Prop) : BR → Value → Value → Prop := fun B v v' => VR G FS B v v'
abbrev VsQ (G : Nat) (FS : FuncId → Prop) : BR → Array Value → Array Value → Prop := fun B v v' => VRs G FS B v.toList v'.toList
abbrev AQ (G : Nat) : BR → Addr → Addr → Prop := fun B a a' => AR G B a a'

theorem r_bind {s : Sem α} {s' : Sem α'} (h : SemR (G := G) (FS := FS) P Q B s s') {f : α → Sem β} {f' : α' → Sem β'} (hf : ∀ B', Sub B B' → ∀ a a', Q B' a a' → SemR (G := G) (FS := FS) P Q' B' (f a) (f' a')) : SemR (G := G) (FS := FS) P Q' B (s >>= f) (s' >>= f') := SemR.bind h hf
theorem r_pure {a : α} {a' : α'} (h : Q B a a') : SemR (G := G) (FS := FS) P Q B (pure a) (pure a') := .pure h
theorem r_stuck (why : String) (s' : Sem α') : SemR (G := G) (FS := FS) P Q B (stuck why) s' := .dead (dead_stuck _)
theorem r_unsupported (u : Unsupported) (s' : Sem α') : SemR (G := G) (FS := FS) P Q B (unsupported u) s' := .dead (dead_unsupported _)
theorem r_goPanic (v : Value) (s' : Sem α') : SemR (G := G) (FS := FS) P Q B (goPanic v) s' := .dead (dead_goPanic _)
theorem m_elemOf (t : TypeId) : MildT P (elemOf t) := by
  unfold elemOf
  refine m_bind (m_underlying t) fun d => ?_
  split
  · exact m_pure _
  · exact m_stuck _
theorem m_newVar (t : TypeId) (v : Value) : MildT P (newVar t v) := fun w h w' hr => by cases hr
theorem dead_runtimePanic (e : RuntimeError) : Dead P (runtimePanic e : Sem α) := by
  unfold runtimePanic
  refine dead_then m_program fun p => ?_
  cases e with
  | typeAssertion i c a m => exact dead_then (m_elemOf _) fun _ => dead_then (m_newVar _ _) fun _ => dead_goPanic _
  | panicNil => exact dead_then (m_elemOf _) fun _ => dead_then (m_newVar _ _) fun _ => dead_goPanic _
  | _ => exact dead_goPanic _
theorem r_runtimePanic (e : RuntimeError) (s' : Sem α') : SemR (G := G) (FS := FS) P Q B (runtimePanic e) s' := .dead (dead_runtimePanic e)
theorem r_boundsPanic (k : IntKind) (x y : Int) (c : BoundsCode) (s' : Sem α') : SemR (G := G) (FS := FS) P Q B (boundsPanic k x y c) s' := by
  refine .dead ?_
  unfold boundsPanic
  simp only
  split
  · exact dead_then (m_bind (m_choose _) fun _ => m_pure _) fun _ => dead_runtimePanic _
  · exact dead_then (m_pure _) fun _ => dead_runtimePanic _
theorem r_prog {f : Program → Sem β} {f' : Program → Sem β'} (h : SemR (G := G) (FS := FS) P Q' B (f P) (f' P)) : SemR (G := G) (FS := FS) P Q' B (program >>= f) (program >>= f') := .program h
theorem r_choose {q : Question} {f : Nat → Sem β} {f' : Nat → Sem β'} (h : ∀ n, SemR (G := G) (FS := FS) P Q' B (f n) (f' n)) : SemR (G := G) (FS := FS) P Q' B (choose q >>= f) (choose q >>= f') := .choose h
theorem r_underlying (t : TypeId) : SemR (G := G) (FS := FS) P (fun _ d d' => d' = d ∧ P.underlying t = some d) B (underlying t) (underlying t) := by
  unfold underlying
  refine r_prog ?_
  cases h : P.underlying t with
  | none => exact r_stuck _ _
  | some d => exact r_pure ⟨rfl, rfl⟩
theorem r_typeInfo (t : TypeId) : SemR (G := G) (FS := FS) P (fun _ d d' => d' = d ∧ P.info? t = some d) B (typeInfo t) (typeInfo t) := by
  unfold typeInfo
  refine r_prog ?_
  cases h : P.info? t with
  | none => exact r_stuck _ _
  | some d => exact r_pure ⟨rfl, rfl⟩
theorem r_sizeOf (t : TypeId) : SemR (G := G) (FS := FS) P EqQ B (sizeOf t) (sizeOf t) := by
  unfold sizeOf
  exact r_bind (r_typeInfo t) fun B' _ a a' h => by rw [h.1]; exact r_pure rfl
theorem r_isAgg (t : TypeId) : SemR (G := G) (FS := FS) P EqQ B (isAgg t) (isAgg t) := by
  unfold isAgg
  refine r_bind (r_underlying t) fun B' _ a a' h => ?_
  rw [h.1]
  split <;> exact r_pure rfl
/-- The type's zero value names no memory. -/
def ZT (G : Nat) (FS : FuncId → Prop) (P : Program) (t : TypeId) : Prop := ∀ (B : BR) (i : TypeInfo) (v : Value), P.info? t = some i → i.zero = some v → VR G FS B v v
/-- .. of a slice's elements. -/
def SZ (G : Nat) (FS : FuncId → Prop) (P : Program) (t : TypeId) : Prop := ∀ e, P.underlying t = some (.slice e) → ZT G FS P e
theorem r_zeroValue {t : TypeId} (hz : ZT G FS P t) : SemR (G := G) (FS := FS) P (fun B v v' => v' = v ∧ VR G FS B v v) B (zeroValue t) (zeroValue t) := by
  unfold zeroValue
  refine r_bind (r_typeInfo t) fun B' _ a a' h => ?_
  rw [h.1]
  cases hv : a.zero with
  | none => exact r_unsupported _ _
  | some v => exact r_pure ⟨rfl, hz _ a v h.2 hv⟩
theorem VR.cells {v v' : Value} (h : VR G FS B v v') : VRs G FS B v.cells.toList v'.cells.toList := by
  cases h with
  | agg k => exact k
  | bool b => exact .cons (.bool b) .nil
  | int k n => exact .cons (.int k n) .nil
  | float k n => exact .cons (.float k n) .nil
  | string s => exact .cons (.string s) .nil
  | ptrNil => exact .cons .ptrNil .nil
  | ptr k => exact .cons (.ptr k) .nil
  | sliceNil l c => exact .cons (.sliceNil l c) .nil
  | slice l c k => exact .cons (.slice l c k) .nil
  | func f k => exact .cons (.func f k) .nil
  | nilFunc => exact .cons .nilFunc .nil
  | nilIface => exact .cons .nilIface .nil
  | mapNil => exact .cons .mapNil .nil
  | chanNil => exact .cons .chanNil .nil
  | iface t k => exact .cons (.iface t k) .nil
  | tuple k => exact .cons (.tuple k) .nil
theorem VRs.size {c c' : Array Value} (h : VRs G FS B c.toList c'.toList) : c'.size = c.size := by
  have := h.length
  simpa using this

theorem r_load {a a' : Addr} (h : AR G B a a') : SemR (G := G) (FS := FS) P (VQ G FS) B (load a) (load a') := .load h fun _ _ hv => .pure hv
theorem r_loadCellsFrom : ∀ (n i : Nat) {B : BR} {a a' : Addr} {acc acc' : Array Value}, AR G B a a' → VRs G FS B acc.toList acc'.toList → SemR (G := G) (FS := FS) P (VsQ G FS) B (loadCellsFrom a i n acc) (loadCellsFrom a' i n acc')
  | 0, _, _, _, _, _, _, _, hacc => r_pure hacc
  | n + 1, i, B, a, a', acc, acc', ha, hacc => by
    unfold loadCellsFrom
    refine r_bind (r_load (ha.add i)) fun B' hB v v' hv => ?_
    refine r_loadCellsFrom n (i + 1) (ha.mono hB) ?_
    rw [Array.toList_push, Array.toList_push]
    exact (hacc.mono hB).append (.cons hv .nil)
theorem r_loadCells {a a' : Addr} (ha : AR G B a a') (n : Nat) : SemR (G := G) (FS := FS) P (VsQ G FS) B (loadCells a n) (loadCells a' n) := r_loadCellsFrom n 0 ha .nil
theorem r_loadVar (t : TypeId) {a a' : Addr} (ha : AR G B a a') : SemR (G := G) (FS := FS) P (VQ G FS) B (loadVar t a) (loadVar t a') := by
  unfold loadVar
  refine r_bind (r_isAgg t) fun B' hB b b' hb => ?_
  obtain rfl : b' = b := hb
  cases b'
  · exact r_load (ha.mono hB)
  · simp only [if_true]
    refine r_bind (r_sizeOf t) fun B'' hB' n n' hn => ?_
    obtain rfl : n' = n := hn
    exact r_bind (r_loadCells ((ha.mono hB).mono hB') _) fun _ _ _ _ h => r_pure (.agg h)
theorem r_storeCells : ∀ {l l' : List Value} (i : Nat) {B : BR} {a a' : Addr}, AR G B a a' → VRs G FS B l l' → SemR (G := G) (FS := FS) P EqQ B (storeCells a l i) (storeCells a' l' i)
  | _, _, _, _, _, _, _, .nil => by unfold storeCells; exact r_pure rfl
  | _, _, i, _, _, _, ha, .cons hv hl => by
    unfold storeCells
    exact .store (ha.add i) hv (r_storeCells (i + 1) ha hl)
theorem r_storeVar (t : TypeId) {a a' : Addr} (ha : AR G B a a') {v v' : Value} (hv : VR G FS B v v') : SemR (G := G) (FS := FS) P EqQ B (storeVar t a v) (storeVar t a' v') := by
  unfold storeVar
  refine r_bind (r_sizeOf t) fun B' hB n n' hn => ?_
  obtain rfl : n' = n := hn
  have hc := hv.cells
  rw [hc.size]
  split
  · exact .dead (dead_bind (dead_stuck _))
  · exact r_storeCells 0 (ha.mono hB) (hc.mono hB)
theorem r_newRow (e : TypeId) {c c' : Array Value} (hc : VRs G FS B c.toList c'.toList) : SemR (G := G) (FS := FS) P (AQ G) B (newRow e c) (newRow e c') := .new hc fun _ _ hr => .pure ⟨.inr ⟨rfl, rfl⟩, rfl, rfl, hr⟩
theorem r_newVar (t : TypeId) {v v' : Value} (hv : VR G FS B v v') : SemR (G := G) (FS := FS) P (AQ G) B (newVar t v) (newVar t v') := r_newRow t hv.cells
theorem r_part (t : TypeId) {c c' : Array Value} (hc : VRs G FS B c.toList c'.toList) (off : Nat) : SemR (G := G) (FS := FS) P (VQ G FS) B (part t c off) (part t c' off) := by
  unfold part
  refine r_bind (r_isAgg t) fun B' hB b b' hb => ?_
  obtain rfl : b' = b := hb
  cases b'
  · simp only [Bool.false_eq_true, if_false]
    cases h : c[off]? with
    | none => exact r_stuck _ _
    | some v =>
      obtain ⟨v', e1, e2⟩ := hc.get (i := off) (v := v) (by simpa using h)
      have : c'[off]? = some v' := by simpa using e1
      rw [this]
      exact r_pure (e2.mono hB)
  · simp only [if_true]
    refine r_bind (r_sizeOf t) fun B'' hB' n n' hn => ?_
    obtain rfl : n' = n := hn
    refine r_pure (.agg ?_)
    simp only [Array.toList_extract, List.extract_eq_take_drop]
    exact (((hc.mono hB).mono hB').drop _).take _

theorem r_asIntOf {v v' : Value} (h : VR G FS B v v') : SemR (G := G) (FS := FS) P EqQ B (asIntOf v) (asIntOf v') := by
  cases h <;> first | exact r_pure rfl | exact r_stuck _ _ | exact r_unsupported _ _
theorem r_asInt {v v' : Value} (h : VR G FS B v v') : SemR (G := G) (FS := FS) P EqQ B (asInt v) (asInt v') := by
  unfold asInt
  exact r_bind (r_asIntOf h) fun _ _ a a' e => by obtain rfl : a' = a := e; exact r_pure rfl
theorem r_asBool {v v' : Value} (h : VR G FS B v v') : SemR (G := G) (FS := FS) P EqQ B (asBool v) (asBool v') := by
  cases h <;> first | exact r_pure rfl | exact r_stuck _ _
theorem r_sureAddr {v v' : Value} (h : VR G FS B v v') : SemR (G := G) (FS := FS) P (AQ G) B (Instr.sureAddr v) (Instr.sureAddr v') := by
  cases h <;> first | exact r_stuck _ _ | (rename_i ha; exact r_pure ha)

/-! ### The operations -/
theorem r_alloc {e : TypeId} (hz : ZT G FS P e) : SemR (G := G) (FS := FS) P (VQ G FS) B (Instr.alloc e true (.tuple #[])) (Instr.alloc e true (.tuple #[])) := by
  unfold Instr.alloc
  refine r_bind (r_zeroValue hz) fun B' _ v v' h => ?_
  rw [h.1]
  exact r_bind (r_newVar e h.2) fun _ _ _ _ h => r_pure (.ptr h)
theorem r_box (e : TypeId) {v v' : Value} (h : VR G FS B v v') : SemR (G := G) (FS := FS) P (VQ G FS) B (Instr.box e v) (Instr.box e v') := by
  unfold Instr.box
  exact r_bind (r_newVar e h) fun _ _ _ _ h => r_pure (.ptr h)
theorem r_loadAt (t : TypeId) {v v' : Value} (h : VR G FS B v v') : SemR (G := G) (FS := FS) P (VQ G FS) B (Instr.loadAt t v) (Instr.loadAt t v') := by
  unfold Instr.loadAt
  exact r_bind (r_sureAddr h) fun _ _ _ _ ha => r_loadVar t ha
theorem r_storeAt (t : TypeId) {v v' x x' : Value} (h : VR G FS B v v') (hx : VR G FS B x x') : SemR (G := G) (FS := FS) P EqQ B (Instr.storeAt t v x) (Instr.storeAt t v' x') := by
  unfold Instr.storeAt
  exact r_bind (r_sureAddr h) fun _ hB _ _ ha => r_storeVar t ha (hx.mono hB)
theorem r_extract {v v' : Value} (h : VR G FS B v v') (i : Nat) : SemR (G := G) (FS := FS) P (VQ G FS) B (Instr.extract v i) (Instr.extract v' i) := by
  cases h <;> first | exact r_stuck _ _ | skip
  rename_i c c' hc
  unfold Instr.extract
  simp only
  cases h : c[i]? with
  | none => exact r_stuck _ _
  | some v =>
    obtain ⟨v', e1, e2⟩ := hc.get (i := i) (v := v) (by simpa using h)
    have : c'[i]? = some v' := by simpa using e1
    rw [this]
    exact r_pure e2
end
end Go.Proofs.Ytgeoffpcmkofkaa
/- Operations are matched: addresses, slices, arithmetic, conversions, append. -/
namespace Go.Proofs.Ytgeoffpcmkofkaa
open Go

section
variable {G : Nat} {FS : FuncId → Prop} {P : Program} {α α' β β' : Type} {Q : BR → α → α' → Prop} {Q' : BR → β → β' → Prop} {B : BR}

theorem VR.none_or {v v' : Value} (h : VR G FS B v v') {a : Option Addr} {l c : Nat} (e : v = .slice a l c) : ∃ a', v' = .slice a' l c ∧ (a = none ∧ a' = none ∨ ∃ x x', a = some x ∧ a' = some x' ∧ AR G B x x') := by
  subst e
  cases h with
  | sliceNil => exact ⟨none, rfl, .inl ⟨rfl, rfl⟩⟩
  | slice _ _ ha => exact ⟨_, rfl, .inr ⟨_, _, rfl, rfl, ha⟩⟩
theorem VR.mkSlice {a a' : Option Addr} (h : a = none ∧ a' = none ∨ ∃ x x', a = some x ∧ a' = some x' ∧ AR G B x x') (l c : Nat) : VR G FS B (.slice a l c) (.slice a' l c) := by
  rcases h with ⟨rfl, rfl⟩ | ⟨x, x', rfl, rfl, k⟩
  · exact .sliceNil _ _
  · exact .slice _ _ k

theorem r_stuckBind (why : String) (f : α → Sem β) (s' : Sem β') : SemR (G := G) (FS := FS) P Q' B (stuck why >>= f) s' := .dead (dead_bind (dead_stuck _))
theorem r_indexAt (t : TypeId) {x x' i i' : Value} (hx : VR G FS B x x') (hi : VR G FS B i i') : SemR (G := G) (FS := FS) P (VQ G FS) B (Instr.indexAt t x i) (Instr.indexAt t x' i') := by
  unfold Instr.indexAt
  refine r_bind (r_asIntOf hi) fun B1 h1 k k' hk => ?_
  obtain rfl : k' = k := hk
  obtain ⟨kk, ii⟩ := k'
  simp only
  refine r_bind (r_underlying t) fun B2 h2 d d' hd => ?_
  rw [hd.1]
  have hx2 := (hx.mono h1).mono h2
  cases d <;> first | exact r_stuckBind _ _ _ | skip
  case array len elem =>
    refine r_bind (r_sureAddr hx2) fun B3 h3 a a' ha => ?_
    simp only [pure_bind]
    refine r_bind (r_underlying _) fun B3 h3 d d' hd => ?_
    rw [hd.1]
    split
    · refine r_bind (r_sizeOf _) fun B4 h4 n n' hn => ?_
      have hn : n' = n := hn
      subst hn
      exact r_pure (VR.ptr ((AR.mono (h3.trans h4) ha).add _))
    · (repeat' split) <;> first | exact r_unsupported _ _ | exact r_boundsPanic _ _ _ _ _
  case slice elem =>
    cases hx2 <;> first | exact r_stuckBind _ _ _ | skip
    case sliceNil l c =>
      simp only [pure_bind]
      refine r_bind (r_underlying _) fun B3 h3 d d' hd => ?_
      exact r_boundsPanic _ _ _ _ _
    case slice l c ha =>
      simp only [pure_bind]
      refine r_bind (r_underlying _) fun B3 h3 d d' hd => ?_
      rw [hd.1]
      split
      · refine r_bind (r_sizeOf _) fun B4 h4 n n' hn => ?_
        have hn : n' = n := hn
        subst hn
        exact r_pure (VR.ptr ((AR.mono (h3.trans h4) ha).add _))
      · (repeat' split) <;> first | exact r_unsupported _ _ | exact r_boundsPanic _ _ _ _ _

theorem r_fieldAt (s : TypeId) {x x' : Value} (hx : VR G FS B x x') (f : Nat) (hs : ∀ fields fl, P.underlying s = some (.struct fields) → fields[f]? = some fl → ∃ i, P.info? fl.type = some i ∧ i.size ≠ 0) : SemR (G := G) (FS := FS) P (VQ G FS) B (Instr.fieldAt s x f) (Instr.fieldAt s x' f) := by
  unfold Instr.fieldAt
  refine r_bind (r_underlying s) fun B1 h1 d d' hd => ?_
  rw [hd.1]
  cases d <;> first | exact r_stuck _ _ | skip
  rename_i fields
  simp only
  cases hf : fields[f]? with
  | none => exact r_stuck _ _
  | some fl =>
    simp only
    refine r_bind (r_sureAddr (hx.mono h1)) fun B2 h2 a a' ha => ?_
    refine r_bind (Q := AQ G) ?_ fun _ _ _ _ h => r_pure (.ptr h)
    unfold fieldPlace
    obtain ⟨i, hi, hn⟩ := hs fields fl hd.2 hf
    refine r_bind (r_bind (r_typeInfo _) (Q' := fun _ n n' => n' = n ∧ n ≠ 0) fun B3 h3 j j' hj => ?_) fun B3 h3 n n' hn => ?_
    · rw [hj.1]
      refine r_pure ⟨rfl, ?_⟩
      have := hj.2
      rw [hi] at this
      injection this with this
      rw [← this]; exact hn
    · rw [hn.1]
      simp only [if_neg hn.2]
      exact r_pure ((ha.mono h3).add _)

theorem r_sliceBound {x x' : Value} (hx : VR G FS B x x') (y : Nat) (c : BoundsCode) : SemR (G := G) (FS := FS) P EqQ B (Instr.sliceBound x y c) (Instr.sliceBound x' y c) := by
  unfold Instr.sliceBound
  refine r_bind (r_asIntOf hx) fun B1 h1 k k' hk => ?_
  obtain rfl : k' = k := hk
  simp only
  split
  · exact r_pure rfl
  · exact r_boundsPanic _ _ _ _ _
/-- Bounds that may be left out. -/
def OV (G : Nat) (FS : FuncId → Prop) (B : BR) : Option Value → Option Value → Prop
  | none, none => True
  | some v, some v' => VR G FS B v v'
  | _, _ => False
theorem OV.mono {B B' : BR} (h : Sub B B') : ∀ {v v' : Option Value}, OV G FS B v v' → OV G FS B' v v'
  | none, none, _ => trivial
  | some _, some _, k => VR.mono h k
theorem r_sliceBounds (b : Bool) (len cap : Nat) {lo lo' hi hi' : Option Value} (hl : OV G FS B lo lo') (hh : OV G FS B hi hi') : SemR (G := G) (FS := FS) P EqQ B (Instr.sliceBounds b len cap lo hi none) (Instr.sliceBounds b len cap lo' hi' none) := by
  cases hi <;> cases hi' <;> first | exact hh.elim | skip
  · cases lo <;> cases lo' <;> first | exact hl.elim | skip
    · exact .pure rfl
    · rename_i v v'
      show SemR P EqQ B (Instr.sliceBound v len .sliceB >>= fun l => pure (l, len, cap)) (Instr.sliceBound v' len .sliceB >>= fun l => pure (l, len, cap))
      exact r_bind (r_sliceBound hl _ _) fun _ _ q q' hq => by obtain rfl : q' = q := hq; exact r_pure rfl
  · rename_i u u'
    cases lo <;> cases lo' <;> first | exact hl.elim | skip
    · show SemR P EqQ B (Instr.sliceBound u cap (if b then .sliceAcap else .sliceAlen) >>= fun h => pure (0, h, cap)) (Instr.sliceBound u' cap (if b then .sliceAcap else .sliceAlen) >>= fun h => pure (0, h, cap))
      exact r_bind (r_sliceBound hh _ _) fun _ _ q q' hq => by obtain rfl : q' = q := hq; exact r_pure rfl
    · rename_i v v'
      show SemR P EqQ B (Instr.sliceBound u cap (if b then .sliceAcap else .sliceAlen) >>= fun h => Instr.sliceBound v h .sliceB >>= fun l => pure (l, h, cap)) (Instr.sliceBound u' cap (if b then .sliceAcap else .sliceAlen) >>= fun h => Instr.sliceBound v' h .sliceB >>= fun l => pure (l, h, cap))
      refine r_bind (r_sliceBound hh _ _) fun B2 h2 n n' hn => ?_
      obtain rfl : n' = n := hn
      exact r_bind (r_sliceBound (VR.mono h2 hl) _ _) fun _ _ q q' hq => by obtain rfl : q' = q := hq; exact r_pure rfl
/-- A slice of a slice (of no string, array or pointer). -/
theorem r_sliceAt (t : TypeId) {e : TypeId} (ht : P.underlying t = some (.slice e)) {x x' : Value} (hx : VR G FS B x x') {lo lo' hi hi' : Option Value} (hl : OV G FS B lo lo') (hh : OV G FS B hi hi') : SemR (G := G) (FS := FS) P (VQ G FS) B (Instr.sliceAt t x lo hi none) (Instr.sliceAt t x' lo' hi' none) := by
  unfold Instr.sliceAt
  refine r_bind (r_underlying t) fun B1 h1 d d' hd => ?_
  rw [hd.1]
  obtain rfl : d = .slice e := by have := hd.2; rw [ht] at this; injection this with this; exact this.symm
  simp only
  unfold Instr.slice
  refine r_bind (r_underlying t) fun B2 h2 d d' hd => ?_
  rw [hd.1]
  obtain rfl : d = .slice e := by have := hd.2; rw [ht] at this; injection this with this; exact this.symm
  have hx2 := (hx.mono h1).mono h2
  have key : ∀ {a a' : Option Addr} {l c : Nat}, (a = none ∧ a' = none ∨ ∃ x x', a = some x ∧ a' = some x' ∧ AR G B2 x x') → SemR (G := G) (FS := FS) P (VQ G FS) B2
      (do let (l, h, m) ← Instr.sliceBounds true l c lo hi none; let size ← sizeOf e; pure (.slice (if m = l then a else a.map (·.add (l * size))) (h - l) (m - l)))
      (do let (l, h, m) ← Instr.sliceBounds true l c lo' hi' none; let size ← sizeOf e; pure (.slice (if m = l then a' else a'.map (·.add (l * size))) (h - l) (m - l))) := by
    intro a a' l c ha
    refine r_bind (r_sliceBounds true l c ((hl.mono h1).mono h2) ((hh.mono h1).mono h2)) fun B3 h3 q q' hq => ?_
    obtain rfl : q' = q := hq
    obtain ⟨ql, qh, qm⟩ := q'
    simp only
    refine r_bind (r_sizeOf _) fun B4 h4 n n' hn => ?_
    obtain rfl : n' = n := hn
    refine r_pure (VR.mkSlice ?_ _ _)
    rcases ha with ⟨rfl, rfl⟩ | ⟨y, y', rfl, rfl, hy⟩
    · left; simp
    · right
      have hy2 := (hy.mono h3).mono h4
      by_cases hm : qm = ql
      · simp only [hm, if_true]; exact ⟨y, y', rfl, rfl, hy2⟩
      · simp only [hm, if_false, Option.map_some]; exact ⟨_, _, rfl, rfl, hy2.add _⟩
  cases hx2 <;> first | exact r_stuck _ _ | skip
  · exact key (.inl ⟨rfl, rfl⟩)
  · rename_i h; exact key (.inr ⟨_, _, rfl, rfl, h⟩)

theorem VRs.zeros {z : Array Value} (hz : VRs G FS B z.toList z.toList) (n : Nat) (hn : 0 < n → 0 < z.size) : VRs G FS B ((Array.range n).map (z[· % z.size]!)).toList ((Array.range n).map (z[· % z.size]!)).toList := by
  refine VRs.of_get rfl fun i v v' h1 h2 => ?_
  rw [h1] at h2
  injection h2 with h2
  subst h2
  simp only [Array.toList_map, List.getElem?_map, Option.map_eq_some_iff] at h1
  obtain ⟨j, hj, rfl⟩ := h1
  have hjn : j < n := by
    have := List.mem_of_getElem? hj
    simpa using this
  have hs := hn (by omega)
  have hlt : j % z.size < z.size := Nat.mod_lt _ hs
  rw [getElem!_pos z _ hlt]
  obtain ⟨v', e1, e2⟩ := hz.get (i := j % z.size) (v := z[j % z.size]) (by simp [hlt])
  have : v' = z[j % z.size] := by
    have e3 : z.toList[j % z.size]? = some z[j % z.size] := by simp [hlt]
    rw [e3] at e1
    injection e1 with e1
    exact e1.symm
  rwa [this] at e2
end
end Go.Proofs.Ytgeoffpcmkofkaa
