/- The tree of a lone run: if on every tape the run ends, every branch ends. -/
import Derived.Test.YtgeoffpcmkofkaaKp
namespace Go.Proofs.Ytgeoffpcmkofkaa
open Go

section
variable {G : Nat} {FS : FuncId → Prop} {Sh : Nat → Prop} {P : Program} {B : BR}
theorem Step1.same {fr a a' : Frame} {cs b b' : List Frame} {w c c' : World} {es es' : Array Event} (hf : FT G FS P fr) (h : Step1 P fr cs w a b c es) (h' : Step1 P fr cs w a' b' c' es') : a' = a ∧ b' = b ∧ c' = c := by
  have e := h.goes (main := true) (st := .running) (off := none) hf
  have e' := h'.goes (main := true) (st := .running) (off := none) hf
  rw [e] at e'
  injection e' with e1 e2 _
  injection e1 with e3 e4
  exact ⟨e3.symm, e4.symm, e2.symm⟩
theorem Good.ft {fr : Frame} {l : List Frame} {w : World} (h : Good G FS Sh P fr l w) : FT G FS P fr := by
  obtain ⟨_, _, _, _, _, h1, _⟩ := h
  exact h1.ft
theorem Reach.on (H : OpenOK G FS P) (HB : BodiesOK G FS P) {Post : Frame → World → Prop} (hT : ∀ fr w T, Post fr w → Post fr (on w T)) {fr : Frame} {l : List Frame} {w : World} (h : Reach P Post fr l w) : Good G FS Sh P fr l w → ∀ T, (∀ k q, w.drawn ≤ k → T k q = w.tape k q) → Reach P Post fr l (on w T) := by
  induction h with
  | done hm hp => exact fun _ T _ => .done hm (hT _ _ T hp)
  | @step fr fr1 l l1 w w1 es hend hs _ ih =>
    intro hg T hk
    obtain ⟨h1, h2, h3⟩ := hs.on H HB hg
    obtain ⟨es', hs'⟩ := h3 T fun i q a _ => hk i q a
    obtain ⟨l2, e, hg1⟩ := hg.step H HB hend hs
    have : l1 = l2 := by simpa using e
    subst this
    exact .step hend hs' (ih hg1 T fun k q a => by rw [h2]; exact hk k q (Nat.le_trans h1 a))

structure Cfg where
  fr : Frame
  l : List Frame
  w : World
/-- A state whose every run ends, and which is yet no tree. -/
def Lost (G : Nat) (FS : FuncId → Prop) (Sh : Nat → Prop) (P : Program) (Post : Frame → World → Prop) (s : Cfg) : Prop := Good G FS Sh P s.fr s.l s.w ∧ (∀ T, Reach P Post s.fr s.l (on s.w T)) ∧ ¬Ends P Post s.fr s.l s.w
/-- One step on, on a tape. -/
structure Link (P : Program) (s : Cfg) (T : Nat → Question → Nat) (s1 : Cfg) : Prop where
  far : s.fr.mode = .returning → s.l ≠ []
  step : ∃ es, Step1 P s.fr (s.l ++ [shut P]) (on s.w T) s1.fr (s1.l ++ [shut P]) s1.w es
theorem Lost.next (H : OpenOK G FS P) (HB : BodiesOK G FS P) {Post : Frame → World → Prop} (hT : ∀ fr w T, Post fr w → Post fr (on w T)) {s : Cfg} (h : Lost G FS Sh P Post s) : ∃ T s1, Link P s T s1 ∧ Lost G FS Sh P Post s1 := by
  obtain ⟨hg, hr, hn⟩ := h
  have far : s.fr.mode = .returning → s.l ≠ [] := by
    intro hm hl
    apply hn
    have := hr s.w.tape
    have e : on s.w s.w.tape = s.w := rfl
    rw [e] at this
    rw [hl] at this ⊢
    cases this with
    | done h1 h2 => exact .done h1 h2
    | step h1 => exact absurd rfl (h1 hm)
  have some : ∀ T, ∃ fr1 l1 w1 es, Step1 P s.fr (s.l ++ [shut P]) (on s.w T) fr1 (l1 ++ [shut P]) w1 es := by
    intro T
    have := hr T
    generalize hl : s.l = l at this far ⊢
    cases this with
    | done h1 h2 => exact absurd rfl (far h1)
    | step h1 h2 h3 => exact ⟨_, _, _, _, h2⟩
  have : ∃ T fr1 l1 w1 es, Step1 P s.fr (s.l ++ [shut P]) (on s.w T) fr1 (l1 ++ [shut P]) w1 es ∧ ¬Ends P Post fr1 l1 w1 := by
    apply Classical.byContradiction
    intro hno
    apply hn
    refine .step far some fun T fr1 l1 w1 es hs => ?_
    apply Classical.byContradiction
    intro hne
    exact hno ⟨T, fr1, l1, w1, es, hs, hne⟩
  obtain ⟨T, fr1, l1, w1, es, hs, hne⟩ := this
  have hgT := hg.on T
  obtain ⟨l2, e, hg1⟩ := hgT.step H HB far hs
  have : l1 = l2 := by simpa using e
  subst this
  refine ⟨T, ⟨fr1, l1, w1⟩, ⟨far, es, hs⟩, hg1, fun T' => ?_, hne⟩
  obtain ⟨h1, h2, h3⟩ := hs.on H HB hgT
  obtain ⟨es', hs'⟩ := h3 (fun k q => if k < w1.drawn then T k q else T' k q) fun i q _ b => by simp only [b, if_true]; rfl
  rw [on_on] at hs'
  have hr' := hr (fun k q => if k < w1.drawn then T k q else T' k q)
  have : Reach P Post fr1 l1 (on w1 fun k q => if k < w1.drawn then T k q else T' k q) := by
    generalize hl : s.l = l at hr' far hs'
    cases hr' with
    | done k1 k2 => exact absurd rfl (far k1)
    | @step _ fr2 _ l2 _ w2 es2 k1 k2 k3 =>
      obtain ⟨e1, e2, e3⟩ := Step1.same hg.ft hs' k2
      have e2 : l2 = l1 := by simpa using e2
      subst e1 e2 e3
      exact k3
  have := this.on H HB hT (hg1.on _) T' fun k q a => by
    show T' k q = if k < w1.drawn then T k q else T' k q
    rw [if_neg (by have : w1.drawn ≤ k := a; omega)]
  exact this
theorem ends_of_reach (H : OpenOK G FS P) (HB : BodiesOK G FS P) {Post : Frame → World → Prop} (hT : ∀ fr w T, Post fr w → Post fr (on w T)) {fr : Frame} {l : List Frame} {w : World} (hg : Good G FS Sh P fr l w) (hr : ∀ T, Reach P Post fr l (on w T)) : Ends P Post fr l w := by
  apply Classical.byContradiction
  intro hn
  have s0 : { s : Cfg // Lost G FS Sh P Post s } := ⟨⟨fr, l, w⟩, hg, hr, hn⟩
  have nx : ∀ s : { s : Cfg // Lost G FS Sh P Post s }, ∃ x : (Nat → Question → Nat) × { s : Cfg // Lost G FS Sh P Post s }, Link P s.1 x.1 x.2.1 := fun s => by
    obtain ⟨T, s1, h1, h2⟩ := s.2.next H HB hT
    exact ⟨(T, ⟨s1, h2⟩), h1⟩
  let f : Nat → { s : Cfg // Lost G FS Sh P Post s } := fun n => Nat.rec s0 (fun _ s => (Classical.choose (nx s)).2) n
  let tp : Nat → Nat → Question → Nat := fun n => (Classical.choose (nx (f n))).1
  have lk : ∀ n, Link P (f n).1 (tp n) (f (n + 1)).1 := fun n => Classical.choose_spec (nx (f n))
  have mono1 : ∀ n, (f n).1.w.drawn ≤ (f (n + 1)).1.w.drawn := by
    intro n
    obtain ⟨es, hs⟩ := (lk n).step
    exact (hs.on H HB ((f n).2.1.on _)).1
  have mono : ∀ d n, (f n).1.w.drawn ≤ (f (n + d)).1.w.drawn := by
    intro d
    induction d with
    | zero => exact fun n => Nat.le_refl _
    | succ d ih => exact fun n => Nat.le_trans (ih n) (mono1 (n + d))
  let at_ : Nat → Nat → Prop := fun k i => (f i).1.w.drawn ≤ k ∧ k < (f (i + 1)).1.w.drawn
  have uniq : ∀ k i j, at_ k i → at_ k j → i = j := by
    intro k i j hi hj
    rcases Nat.lt_trichotomy i j with h | h | h
    · have := mono (j - (i + 1)) (i + 1)
      rw [show i + 1 + (j - (i + 1)) = j by omega] at this
      have h1 := hi.2
      have h2 := hj.1
      omega
    · exact h
    · have := mono (i - (j + 1)) (j + 1)
      rw [show j + 1 + (i - (j + 1)) = i by omega] at this
      have h1 := hj.2
      have h2 := hi.1
      omega
  let T : Nat → Question → Nat := fun k q => open Classical in if h : ∃ i, at_ k i then tp (Classical.choose h) k q else 0
  have agree : ∀ i k q, at_ k i → T k q = tp i k q := by
    intro i k q h
    have h' : ∃ i, at_ k i := ⟨i, h⟩
    have e : T k q = tp (Classical.choose h') k q := dif_pos h'
    rw [e, uniq k _ i (Classical.choose_spec h') h]
  have lkT : ∀ n, ∃ es, Step1 P (f n).1.fr ((f n).1.l ++ [shut P]) (on (f n).1.w T) (f (n + 1)).1.fr ((f (n + 1)).1.l ++ [shut P]) (on (f (n + 1)).1.w T) es := by
    intro n
    obtain ⟨es, hs⟩ := (lk n).step
    exact (hs.on H HB ((f n).2.1.on _)).2.2 T fun k q a b => agree n k q ⟨a, b⟩
  have never : ∀ {fr : Frame} {l : List Frame} {w : World}, Reach P Post fr l w → ∀ n, fr = (f n).1.fr → l = (f n).1.l → w = on (f n).1.w T → False := by
    intro fr l w h
    induction h with
    | done h1 h2 => intro n e1 e2 e3; exact (lk n).far (by rw [← e1]; exact h1) e2.symm
    | @step fr fr1 l l1 w w1 es hend hs _ ih =>
      intro n e1 e2 e3
      subst e1 e2 e3
      obtain ⟨es', hs'⟩ := lkT n
      obtain ⟨k1, k2, k3⟩ := Step1.same (f n).2.1.ft hs' hs
      exact ih (n + 1) k1 (by simpa using k2) k3
  exact never (s0.2.2.1 T) 0 rfl rfl rfl
end
end Go.Proofs.Ytgeoffpcmkofkaa
