/- Ka: texts laid into one. -/
import Derived.Calls
import Derived.Conc.Events
/- Two runs of one piece of code whose blocks bear other numbers: values, memory and operations that are related. (Lone: the run that a contract speaks of. The other: in company, where others make memory too.) -/
namespace Go.Proofs.Ytgeoffpcmkofkaa
open Go

/-- Which block of the lone run stands for which. -/
abbrev BR := Nat → Nat → Prop
def Sub (B B' : BR) : Prop := ∀ r r', B r r' → B' r r'
theorem Sub.refl (B : BR) : Sub B B := fun _ _ h => h
theorem Sub.trans {B B' B'' : BR} (h : Sub B B') (h' : Sub B' B'') : Sub B B'' := fun r r' k => h' r r' (h r r' k)
def ext (B : BR) (r r' : Nat) : BR := fun q q' => B q q' ∨ (q = r ∧ q' = r')
theorem Sub.ext (B : BR) (r r' : Nat) : Sub B (ext B r r') := fun _ _ h => .inl h

variable (G : Nat) (FS : FuncId → Prop)
/-- Blocks from number G on (the program's variables lie below). -/
structure AR (B : BR) (a a' : Addr) : Prop where
  block : B a.block a'.block
  off : a'.off = a.off
  spot : a'.spot = a.spot
  low : G ≤ a.block
theorem AR.mono {G : Nat} {B B' : BR} (h : Sub B B') {a a' : Addr} (k : AR G B a a') : AR G B' a a' := ⟨h _ _ k.block, k.off, k.spot, k.low⟩
theorem AR.add {G : Nat} {B : BR} {a a' : Addr} (k : AR G B a a') (n : Nat) : AR G B (a.add n) (a'.add n) := by
  unfold Addr.add
  by_cases h : n = 0
  · simp [h]; exact k
  · simp only [h, if_false]; exact ⟨k.block, by simp [k.off], rfl, k.low⟩

mutual
inductive VR (B : BR) : Value → Value → Prop
  | bool (b : Bool) : VR B (.bool b) (.bool b)
  | int (k : IntKind) (n : Int) : VR B (.int k n) (.int k n)
  | float (k : FloatKind) (n : Nat) : VR B (.float k n) (.float k n)
  | string (s : ByteArray) : VR B (.string s) (.string s)
  | ptrNil : VR B (.pointer none) (.pointer none)
  | ptr {a a' : Addr} : AR G B a a' → VR B (.pointer (some a)) (.pointer (some a'))
  | sliceNil (l c : Nat) : VR B (.slice none l c) (.slice none l c)
  | slice {a a' : Addr} (l c : Nat) : AR G B a a' → VR B (.slice (some a) l c) (.slice (some a') l c)
  | func (f : FuncId) : FS f → VR B (.func (.func f) #[] #[]) (.func (.func f) #[] #[])
  | nilFunc : VR B .nilFunc .nilFunc
  | nilIface : VR B .nilIface .nilIface
  | mapNil : VR B (.map none) (.map none)
  | chanNil : VR B (.chan none) (.chan none)
  | iface (t : TypeId) {v v' : Value} : VR B v v' → VR B (.iface t v) (.iface t v')
  | agg {cs cs' : Array Value} : VRs B cs.toList cs'.toList → VR B (.agg cs) (.agg cs')
  | tuple {cs cs' : Array Value} : VRs B cs.toList cs'.toList → VR B (.tuple cs) (.tuple cs')
inductive VRs (B : BR) : List Value → List Value → Prop
  | nil : VRs B [] []
  | cons {v v' : Value} {l l' : List Value} : VR B v v' → VRs B l l' → VRs B (v :: l) (v' :: l')
end

section
variable {G : Nat} {FS : FuncId → Prop} {B B' : BR}
mutual
theorem VR.mono (h : Sub B B') : ∀ {v v' : Value}, VR G FS B v v' → VR G FS B' v v'
  | _, _, .bool b => .bool b
  | _, _, .int k n => .int k n
  | _, _, .float k n => .float k n
  | _, _, .string s => .string s
  | _, _, .ptrNil => .ptrNil
  | _, _, .ptr k => .ptr (k.mono h)
  | _, _, .sliceNil l c => .sliceNil l c
  | _, _, .slice l c k => .slice l c (k.mono h)
  | _, _, .func f k => .func f k
  | _, _, .nilFunc => .nilFunc
  | _, _, .nilIface => .nilIface
  | _, _, .mapNil => .mapNil
  | _, _, .chanNil => .chanNil
  | _, _, .iface t k => .iface t (k.mono h)
  | _, _, .agg k => .agg (k.mono h)
  | _, _, .tuple k => .tuple (k.mono h)
theorem VRs.mono (h : Sub B B') : ∀ {l l' : List Value}, VRs G FS B l l' → VRs G FS B' l l'
  | _, _, .nil => .nil
  | _, _, .cons k ks => .cons (k.mono h) (ks.mono h)
end
theorem VRs.length : ∀ {l l' : List Value}, VRs G FS B l l' → l'.length = l.length
  | _, _, .nil => rfl
  | _, _, .cons _ ks => by simp [ks.length]
theorem VRs.get : ∀ {l l' : List Value}, VRs G FS B l l' → ∀ {i : Nat} {v : Value}, l[i]? = some v → ∃ v', l'[i]? = some v' ∧ VR G FS B v v'
  | _, _, .nil, i, v, h => by simp at h
  | _, _, .cons k ks, 0, v, h => by simp at h; subst h; exact ⟨_, rfl, k⟩
  | _, _, .cons k ks, i + 1, v, h => by simpa using ks.get (by simpa using h)
theorem VRs.none : ∀ {l l' : List Value}, VRs G FS B l l' → ∀ {i : Nat}, l[i]? = none → l'[i]? = none := fun h i hi => by
  rw [List.getElem?_eq_none_iff] at hi ⊢
  rw [h.length]; exact hi
theorem VRs.append : ∀ {l l' m m' : List Value}, VRs G FS B l l' → VRs G FS B m m' → VRs G FS B (l ++ m) (l' ++ m')
  | _, _, _, _, .nil, h => h
  | _, _, _, _, .cons k ks, h => .cons k (ks.append h)
theorem VRs.take : ∀ {l l' : List Value}, VRs G FS B l l' → ∀ n, VRs G FS B (l.take n) (l'.take n)
  | _, _, .nil, n => by simp; exact .nil
  | _, _, .cons k ks, 0 => by simp; exact .nil
  | _, _, .cons k ks, n + 1 => by simp; exact .cons k (ks.take n)
theorem VRs.drop : ∀ {l l' : List Value}, VRs G FS B l l' → ∀ n, VRs G FS B (l.drop n) (l'.drop n)
  | _, _, .nil, n => by simp; exact .nil
  | _, _, .cons k ks, 0 => by simp; exact .cons k ks
  | _, _, .cons k ks, n + 1 => by simp; exact ks.drop n
theorem VRs.set : ∀ {l l' : List Value}, VRs G FS B l l' → ∀ (n : Nat) {v v' : Value}, VR G FS B v v' → VRs G FS B (l.set n v) (l'.set n v')
  | _, _, .nil, n, _, _, _ => by simp; exact .nil
  | _, _, .cons _ ks, 0, _, _, h => by simp; exact .cons h ks
  | _, _, .cons k ks, n + 1, _, _, h => by simp; exact .cons k (ks.set n h)
theorem VRs.replicate {v v' : Value} (h : VR G FS B v v') : ∀ n, VRs G FS B (List.replicate n v) (List.replicate n v')
  | 0 => .nil
  | n + 1 => .cons h (VRs.replicate h n)
theorem VRs.of_get : ∀ {l l' : List Value}, l'.length = l.length → (∀ (i : Nat) (v v' : Value), l[i]? = some v → l'[i]? = some v' → VR G FS B v v') → VRs G FS B l l'
  | [], [], _, _ => .nil
  | [], _ :: _, h, _ => by simp at h
  | _ :: _, [], h, _ => by simp at h
  | v :: l, v' :: l', h, k => .cons (k 0 v v' rfl rfl) (VRs.of_get (by simpa using h) fun i x x' hx hx' => k (i + 1) x x' (by simpa using hx) (by simpa using hx'))
end

/-! ### Operations -/
/-- The ways in which an operation may come to nothing here: no wait, no end of the program. -/
def MildH : Halt → Prop
  | .stuck _ | .unsupported _ | .panic _ => True
  | _ => False
def MildT {α : Type} (P : Program) (s : Sem α) : Prop := ∀ w h w', s.run P w = .halt h w' → MildH h
def Dead {α : Type} (P : Program) (s : Sem α) : Prop := (∀ w a w', s.run P w ≠ .ok a w') ∧ MildT P s
section
variable {G} {FS} (P : Program)
/-- One run of s, wherever it comes to its end, is matched by one of s'. -/
inductive SemR {α α' : Type} (Q : BR → α → α' → Prop) : BR → Sem α → Sem α' → Prop
  | pure {B : BR} {a : α} {a' : α'} : Q B a a' → SemR Q B (.pure a) (.pure a')
  | load {B : BR} {a a' : Addr} {k : Value → Sem α} {k' : Value → Sem α'} : AR G B a a' → (∀ v v', VR G FS B v v' → SemR Q B (k v) (k' v')) → SemR Q B (.load .plain a k) (.load .plain a' k')
  | store {B : BR} {a a' : Addr} {v v' : Value} {k : Sem α} {k' : Sem α'} : AR G B a a' → VR G FS B v v' → SemR Q B k k' → SemR Q B (.store .plain a v k) (.store .plain a' v' k')
  | new {B : BR} {c c' : Array Value} {e : TypeId} {k : Nat → Sem α} {k' : Nat → Sem α'} : VRs G FS B c.toList c'.toList → (∀ r r', G ≤ r → SemR Q (ext B r r') (k r) (k' r')) → SemR Q B (.new (.cells c e) k) (.new (.cells c' e) k')
  | newNum {B : BR} {a a' : Addr} {l : Bool} {k : Nat → Sem α} {k' : Nat → Sem α'} : AR G B a a' → (∀ r r', G ≤ r → SemR Q (ext B r r') (k r) (k' r')) → SemR Q B (.new (.number a l) k) (.new (.number a' l) k')
  | getNum {B : BR} {r r' : Nat} {k : Obj → Sem α} {k' : Obj → Sem α'} : B r r' → (∀ a a' l, AR G B a a' → SemR Q B (k (.number a l)) (k' (.number a' l))) → SemR Q B (.getObj r k) (.getObj r' k')
  | shape {B : BR} {r r' : Nat} {k : Option (TypeId × Nat) → Sem α} {k' : Option (TypeId × Nat) → Sem α'} : B r r' → (∀ s, SemR Q B (k s) (k' s)) → SemR Q B (.shape r k) (.shape r' k')
  | choose {B : BR} {q : Question} {k : Nat → Sem α} {k' : Nat → Sem α'} : (∀ n, SemR Q B (k n) (k' n)) → SemR Q B (.choose q k) (.choose q k')
  | program {B : BR} {k : Program → Sem α} {k' : Program → Sem α'} : SemR Q B (k P) (k' P) → SemR Q B (.program k) (.program k')
  | mark {B : BR} {m : Mark} {k : Sem α} {k' : Sem α'} : (m = .noRoom ∨ ∃ f, m = .extern f) → SemR Q B k k' → SemR Q B (.mark m k) (.mark m k')
  | dead {B : BR} {s : Sem α} {s' : Sem α'} : Dead P s → SemR Q B s s'
end

section
variable {G : Nat} {FS : FuncId → Prop} {P : Program} {α α' β β' : Type} {Q : BR → α → α' → Prop} {Q' : BR → β → β' → Prop} {B : BR}
theorem run_bind {s : Sem α} {f : α → Sem β} {w : World} {b : β} {w' : World} (h : (s.bind f).run P w = .ok b w') : ∃ a w₁, s.run P w = .ok a w₁ ∧ (f a).run P w₁ = .ok b w' := by
  rw [← Sem.runT_fst P _ w #[], Sem.runT_bind'] at h
  rw [← Sem.runT_fst P s w #[]]
  cases hs : s.runT P w #[] with
  | mk r es =>
    rw [hs] at h
    cases r with
    | ok a w₁ =>
      simp only at h
      rw [Sem.runT_fst] at h
      exact ⟨a, w₁, rfl, h⟩
    | halt _ _ => cases h
theorem halt_bind {s : Sem α} {f : α → Sem β} {w : World} {h : Halt} {w' : World} (k : (s.bind f).run P w = .halt h w') : s.run P w = .halt h w' ∨ ∃ a w₁, s.run P w = .ok a w₁ ∧ (f a).run P w₁ = .halt h w' := by
  rw [← Sem.runT_fst P _ w #[], Sem.runT_bind'] at k
  rw [← Sem.runT_fst P s w #[]]
  cases hs : s.runT P w #[] with
  | mk r es =>
    rw [hs] at k
    cases r with
    | ok a w₁ =>
      simp only at k
      rw [Sem.runT_fst] at k
      exact .inr ⟨a, w₁, rfl, k⟩
    | halt h' w₂ =>
      simp only at k
      injection k with k1 k2
      subst k1 k2
      exact .inl rfl
theorem m_bind {s : Sem α} {f : α → Sem β} (h : MildT P s) (k : ∀ a, MildT P (f a)) : MildT P (s.bind f) := fun w x w' hr => by
  rcases halt_bind hr with q | ⟨a, w₁, _, q⟩
  · exact h _ _ _ q
  · exact k a _ _ _ q
theorem m_pure (a : α) : MildT P (pure a : Sem α) := fun w h w' hr => by cases hr
theorem m_program : MildT P program := fun w h w' hr => by cases hr
theorem m_choose (q : Question) : MildT P (choose q) := fun w h w' hr => by
  simp only [choose, Sem.run] at hr
  split at hr <;> cases hr
theorem m_mark (m : Mark) : MildT P (mark m) := fun w h w' hr => by cases hr
theorem m_shape (r : Nat) : MildT P (shape r) := fun w h w' hr => by cases hr
theorem m_frozen (a : Addr) : MildT P (frozen a) := fun w h w' hr => by cases hr
theorem m_new (o : Obj) : MildT P (newObj o) := fun w h w' hr => by cases hr
theorem m_sys (c : Sys) : MildT P (sys c) := fun w h w' hr => by cases hr
theorem m_stuck (why : String) : MildT P (stuck why : Sem α) := fun w h w' hr => by cases hr; trivial
theorem m_unsupported (u : Unsupported) : MildT P (unsupported u : Sem α) := fun w h w' hr => by cases hr; trivial
theorem m_goPanic (v : Value) : MildT P (goPanic v : Sem α) := fun w h w' hr => by cases hr; trivial
theorem m_typeInfo (t : TypeId) : MildT P (typeInfo t) := by
  refine m_bind m_program fun p => ?_
  split
  · exact m_pure _
  · exact m_stuck _
theorem m_underlying (t : TypeId) : MildT P (underlying t) := by
  refine m_bind m_program fun p => ?_
  split
  · exact m_pure _
  · exact m_stuck _
theorem m_asIntOf (v : Value) : MildT P (asIntOf v) := by
  unfold asIntOf
  split
  · exact m_pure _
  · exact m_unsupported _
  · exact m_stuck _
theorem m_asInt (v : Value) : MildT P (asInt v) := m_bind (m_asIntOf v) fun _ => m_pure _
theorem dead_bind {s : Sem α} {f : α → Sem β} (h : Dead P s) : Dead P (s.bind f) := by
  refine ⟨fun w b w' k => ?_, fun w x w' hr => ?_⟩
  · obtain ⟨a, w₁, h1, _⟩ := run_bind k
    exact h.1 w a w₁ h1
  · rcases halt_bind hr with q | ⟨a, w₁, q, _⟩
    · exact h.2 _ _ _ q
    · exact absurd q (h.1 _ _ _)
theorem dead_then {s : Sem α} {f : α → Sem β} (m : MildT P s) (h : ∀ a, Dead P (f a)) : Dead P (s.bind f) := by
  refine ⟨fun w b w' k => ?_, m_bind m fun a => (h a).2⟩
  obtain ⟨a, w₁, _, h1⟩ := run_bind k
  exact (h a).1 w₁ b w' h1
theorem dead_stuck (why : String) : Dead P (stuck why : Sem α) := ⟨fun _ _ _ h => (nomatch h), m_stuck _⟩
theorem dead_unsupported (u : Unsupported) : Dead P (unsupported u : Sem α) := ⟨fun _ _ _ h => (nomatch h), m_unsupported _⟩
theorem dead_goPanic (v : Value) : Dead P (goPanic v : Sem α) := ⟨fun _ _ _ h => (nomatch h), m_goPanic _⟩

theorem SemR.bind {s : Sem α} {s' : Sem α'} (h : SemR (G := G) (FS := FS) P Q B s s') {f : α → Sem β} {f' : α' → Sem β'} (hf : ∀ B', Sub B B' → ∀ a a', Q B' a a' → SemR (G := G) (FS := FS) P Q' B' (f a) (f' a')) : SemR (G := G) (FS := FS) P Q' B (s.bind f) (s'.bind f') := by
  induction h with
  | pure hq => exact hf _ (Sub.refl _) _ _ hq
  | load ha _ ih => exact .load ha fun v v' hv => ih v v' hv hf
  | store ha hv _ ih => exact .store ha hv (ih hf)
  | new hc _ ih => exact .new hc fun r r' hr => ih r r' hr fun B' hB => hf B' ((Sub.ext _ r r').trans hB)
  | newNum hc _ ih => exact .newNum hc fun r r' hr => ih r r' hr fun B' hB => hf B' ((Sub.ext _ r r').trans hB)
  | getNum hb _ ih => exact .getNum hb fun a a' l ha => ih a a' l ha hf
  | shape hb _ ih => exact .shape hb fun s => ih s hf
  | choose _ ih => exact .choose fun n => ih n hf
  | program _ ih => exact .program (ih hf)
  | mark hm _ ih => exact .mark hm (ih hf)
  | dead hd => exact .dead (dead_bind hd)
theorem SemR.mono {s : Sem α} {s' : Sem α'} {Q₂ : BR → α → α' → Prop} (h : SemR (G := G) (FS := FS) P Q B s s') (hq : ∀ B a a', Q B a a' → Q₂ B a a') : SemR (G := G) (FS := FS) P Q₂ B s s' := by
  induction h with
  | pure h => exact .pure (hq _ _ _ h)
  | load ha _ ih => exact .load ha ih
  | store ha hv _ ih => exact .store ha hv ih
  | new hc _ ih => exact .new hc ih
  | newNum hc _ ih => exact .newNum hc ih
  | getNum hb _ ih => exact .getNum hb ih
  | shape hb _ ih => exact .shape hb ih
  | choose _ ih => exact .choose ih
  | program _ ih => exact .program ih
  | mark hm _ ih => exact .mark hm ih
  | dead hd => exact .dead hd
end

/-! ### Memory -/
variable (Sh : Nat → Prop)
inductive ObR (B : BR) (r : Nat) : Obj → Obj → Prop
  | cells {c c' : Array Value} {e : TypeId} {fr : Nat × Nat} : VRs G FS B c.toList c'.toList → (Sh r → fr = (0, c.size)) → (¬Sh r → fr = (0, 0)) → ObR B r (.cells c e fr) (.cells c' e (0, 0))
  | number {a a' : Addr} {l : Bool} : AR G B a a' → ¬Sh r → ObR B r (.number a l) (.number a' l)
/-- The two worlds: block by block; what is shared is frozen in the lone one, so that no lone run writes there; the tapes go on alike. -/
structure WR (B : BR) (wl w : World) : Prop where
  blk : ∀ r r', B r r' → ∃ o o', wl.heap[r]? = some o ∧ w.heap[r']? = some o' ∧ ObR G FS Sh B r o o'
  fn : ∀ r r' q', B r r' → B r q' → r' = q'
  inj : ∀ r q r', B r r' → B q r' → r = q
  low : ∀ r, Sh r → r < wl.heap.size
  glob : G ≤ wl.heap.size
  tape : ∀ i q, wl.tape (wl.drawn + i) q = w.tape (w.drawn + i) q
/-- What the other run did to its world. -/
structure Did (B B' : BR) (w w' : World) : Prop where
  os : w'.os = w.os
  tape : w'.tape = w.tape
  output : w'.output = w.output
  size : w.heap.size ≤ w'.heap.size
  kept : ∀ r', r' < w.heap.size → (∀ r, B r r' → Sh r) → w'.heap[r']? = w.heap[r']?
  sub : Sub B B'
  new : ∀ r r', B' r r' → B r r' ∨ (w.heap.size ≤ r' ∧ r' < w'.heap.size ∧ ¬Sh r)
/-- What it lists. -/
def EvOK (B : BR) (e : Event) : Prop :=
  (∃ a : Addr, e = ⟨.cell a, false, false⟩ ∧ ∃ r, B r a.block) ∨ (∃ a : Addr, e = ⟨.cell a, true, false⟩ ∧ ∃ r, B r a.block ∧ ¬Sh r) ∨ (∃ m, e = ⟨.mark m, false, true⟩ ∧ (m = .noRoom ∨ ∃ f, m = .extern f)) ∨ (∃ r', e = ⟨.obj r', false, false⟩ ∧ ∃ r, B r r' ∧ ¬Sh r)

section
variable {G : Nat} {FS : FuncId → Prop} {Sh : Nat → Prop} {B B' B'' : BR} {w w' w'' : World}
theorem ObR.mono (h : Sub B B') {r : Nat} {o o' : Obj} (k : ObR G FS Sh B r o o') : ObR G FS Sh B' r o o' := by
  cases k with
  | cells h1 h2 h3 => exact .cells (h1.mono h) h2 h3
  | number h1 h2 => exact .number (h1.mono h) h2
theorem Did.refl (B : BR) (w : World) : Did Sh B B w w := ⟨rfl, rfl, rfl, Nat.le_refl _, fun _ _ _ => rfl, Sub.refl _, fun _ _ h => .inl h⟩
theorem Did.trans (h : Did Sh B B' w w') (k : Did Sh B' B'' w' w'') : Did Sh B B'' w w'' := by
  refine ⟨k.os.trans h.os, k.tape.trans h.tape, k.output.trans h.output, Nat.le_trans h.size k.size, fun r' hr hs => ?_, h.sub.trans k.sub, fun r r' hb => ?_⟩
  · refine (k.kept r' (Nat.lt_of_lt_of_le hr h.size) fun r hb => ?_).trans (h.kept r' hr hs)
    rcases h.new r r' hb with q | ⟨q, _⟩
    · exact hs r q
    · omega
  · rcases k.new r r' hb with q | ⟨q1, q2, q3⟩
    · rcases h.new r r' q with q | ⟨q1, q2, q3⟩
      · exact .inl q
      · exact .inr ⟨q1, Nat.lt_of_lt_of_le q2 k.size, q3⟩
    · exact .inr ⟨Nat.le_trans h.size q1, q2, q3⟩
theorem EvOK.mono (h : Sub B B') {e : Event} (k : EvOK Sh B e) : EvOK Sh B' e := by
  rcases k with ⟨a, e1, r, hb⟩ | ⟨a, e1, r, hb, hs⟩ | k | ⟨r', e1, r, hb, hs⟩
  · exact .inl ⟨a, e1, r, h _ _ hb⟩
  · exact .inr (.inl ⟨a, e1, r, h _ _ hb, hs⟩)
  · exact .inr (.inr (.inl k))
  · exact .inr (.inr (.inr ⟨r', e1, r, h _ _ hb, hs⟩))

theorem cell_block {w : World} {a : Addr} {v : Value} (h : w.cell? a = some v) : ∃ c e fr, w.heap[a.block]? = some (.cells c e fr) ∧ a.spot = none ∧ c[a.off]? = some v := by
  unfold World.cell? at h
  split at h
  · rename_i c e fr hc
    by_cases hs : a.spot.isSome = true
    · simp [hs] at h
    · simp only [hs] at h
      exact ⟨c, e, fr, hc, by simpa using hs, by simpa using h⟩
  · cases h
theorem WR.cells {wl : World} (h : WR G FS Sh B wl w) {r r' : Nat} (hb : B r r') {c : Array Value} {e : TypeId} {fr : Nat × Nat} (hc : wl.heap[r]? = some (.cells c e fr)) : ∃ c', w.heap[r']? = some (.cells c' e (0, 0)) ∧ VRs G FS B c.toList c'.toList ∧ (Sh r → fr = (0, c.size)) ∧ (¬Sh r → fr = (0, 0)) := by
  obtain ⟨o, o', h1, h2, h3⟩ := h.blk r r' hb
  rw [hc] at h1
  cases h1
  cases h3 with
  | cells k1 k2 k3 => exact ⟨_, h2, k1, k2, k3⟩
theorem WR.cell {wl : World} (h : WR G FS Sh B wl w) {a a' : Addr} (ha : AR G B a a') {v : Value} (hv : wl.cell? a = some v) : ∃ v', w.cell? a' = some v' ∧ VR G FS B v v' := by
  obtain ⟨c, e, fr, h1, hsp, hv⟩ := cell_block hv
  obtain ⟨c', h2, h3, _⟩ := h.cells ha.block h1
  obtain ⟨v', e1, e2⟩ := h3.get (i := a.off) (v := v) (by simpa using hv)
  refine ⟨v', ?_, e2⟩
  simp only [World.cell?, h2, ha.spot, hsp, ha.off]
  simpa using e1
theorem WR.far {wl : World} {P : Program} (h : WR G FS Sh B wl w) {a a' : Addr} (ha : AR G B a a') (b : Bool) : (∀ x, wl.farLoad P a b ≠ .ok x) ∧ ∀ v x, wl.farStore P a v b ≠ .ok x := by
  obtain ⟨o, o', h1, _, h3⟩ := h.blk _ _ ha.block
  cases h3 <;> exact ⟨fun x => by simp [World.farLoad, h1], fun v x => by simp [World.farStore, h1]⟩
end
end Go.Proofs.Ytgeoffpcmkofkaa
