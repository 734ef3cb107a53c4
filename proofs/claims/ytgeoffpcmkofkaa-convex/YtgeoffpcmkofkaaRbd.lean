/- Pm; Pn: texts laid into one. -/
import Derived.Test.YtgeoffpcmkofkaaRba
import Derived.Test.YtgeoffpcmkofkaaRao
import Derived.Maps.OwnSet
import Derived.Maps.RangeWalk
import Derived.Maps.Ext
import Derived.DeepKeys4
/- Maps that are keyed by points and by directed sides: what their keys are. -/
namespace Go.Proofs.Ytgeoffpcmkofkaa
open Go.RowKit Go.Maps Fl
set_option maxRecDepth 100000

theorem types_size : Try.prog.types.size = 160 := by kernel_rfl
theorem law23 : Keyed Try.prog 23 := Keyed.of_law (deep_law_laid (m := 5) (by kernel_rfl) (by decide) (by rw [types_size]; decide) (by kernel_rfl) (by kernel_rfl))
theorem wfI {x : Int} (h : Cd x) : (Lit.int .i64 x).wf = true := by
  obtain ⟨h1, h2⟩ := h
  simp [Lit.wf, IntKind.min, IntKind.max, IntKind.signed, IntKind.bits]
  omega
theorem keyT23 : Try.prog.keyType 23 = true := by kernel_rfl
theorem cells23 : Try.prog.cellsOf 23 = 2 := by kernel_rfl
theorem cells3 : Try.prog.cellsOf 3 = 1 := by kernel_rfl

theorem lits3 (d : Nat) {x : Int} (h : Cd x) : Try.prog.keyLits (d + 1) 3 [.int .i64 x] = some [.int .i64 x] := by
  simp [Program.keyLits, Try.underlying3, wfI h]
theorem lits23 (d : Nat) {p : Pt} (h : CdP p) : Try.prog.keyLits (d + 2) 23 [.int .i64 p.1, .int .i64 p.2] = some [.int .i64 p.1, .int .i64 p.2] := by
  unfold Program.keyLits
  rw [Try.underlying23]
  simp [cells23, cells3, lits3 d h.1, lits3 d h.2]
def litP (p : Pt) : Lit := .string (keyBytes [.int .i64 p.1, .int .i64 p.2])
theorem key23 {p : Pt} (h : CdP p) : keyOf Try.prog 23 (ptV p) = some (litP p) := by
  unfold keyOf ptV litP
  rw [Try.underlying23]
  simp [keyT23, Value.formed, Try.underlying23, cells23, Value.cells, lits23 159 h]
theorem ptV_inj {p q : Pt} (h : ptV p = ptV q) : p = q := by
  simp [ptV] at h; exact pt_ext h.1 h.2
theorem litP_inj {p q : Pt} (hp : CdP p) (hq : CdP q) (h : litP p = litP q) : p = q := ptV_inj (law23.inj (key23 hp) (by rw [h]; exact key23 hq))
theorem litP_key {p : Pt} (h : CdP p) : WideAt.IsKeyLit (litP p) := law23.key (key23 h)

def inD (x : Int) : DataW Unit := .lit (.int .i64 x)
theorem inD_inj {p q : Int} (h : inD p = inD q) : p = q := by
  simpa [inD] using h
open Classical in
noncomputable def inElem (v : Value) : Option (DataW Unit × List MemPlace) := if h : ∃ p, v = .int .i64 p then some (inD h.choose, []) else none
theorem inElem_mk (p : Int) : inElem (.int .i64 p) = some (inD p, []) := by
  have h : ∃ q, Value.int .i64 p = .int .i64 q := ⟨p, rfl⟩
  unfold inElem
  rw [dif_pos h]
  have e : Value.int .i64 p = .int .i64 h.choose := h.choose_spec
  injection e with _ e
  rw [← e]
theorem inElem_inv {v : Value} {z : DataW Unit × List MemPlace} (h : inElem v = some z) : ∃ p, v = .int .i64 p ∧ z = (inD p, []) := by
  unfold inElem at h
  split at h
  · rename_i k; injection h with h; exact ⟨_, k.choose_spec, h.symm⟩
  · cases h

/-- Numbers of points. -/
abbrev Ns := Pt → Option Int
def setN (m : Ns) (e : Pt) (c : Int) : Ns := fun f => if f = e then some c else m f
/-- What is looked up. -/
def atN (m : Ns) (e : Pt) : Int := (m e).getD 0
structure ReadsI (D : DataW Unit) (m : Ns) : Prop where
  sup : ∀ e c, m e = some c → CdP e
  has : ∀ e, CdP e → Maps.has D (litP e) = (m e).isSome
  look : ∀ e c, m e = some c → ∀ z, D.atKey (litP e) z = inD c
  key : ∀ k, Maps.has D k = true → ∃ e, CdP e ∧ k = litP e

theorem readsI_empty : ReadsI (.map []) (fun _ => none) := ⟨fun _ _ h => (by cases h), fun _ _ => rfl, fun _ _ h => (by cases h), fun _ h => (by simp [Maps.has] at h)⟩

theorem ReadsI.put {D : DataW Unit} {m : Ns} (h : ReadsI D m) (hD : IsMap D) {e : Pt} (he : CdP e) (c : Int) : ReadsI (D.put (litP e) (inD c)) (setN m e c) := by
  have hk := litP_key he
  refine ⟨?_, ?_, ?_, ?_⟩
  · intro f d hf
    unfold setN at hf
    split at hf
    · rename_i k; rw [k]; exact he
    · exact h.sup f d hf
  · intro f hf
    by_cases k : f = e
    · subst k
      rw [Maps.has_put_same hD hk]; simp [setN]
    · rw [Maps.has_put_other (fun c => k (litP_inj hf he c)), h.has f hf]; simp [setN, k]
  · intro f d hf z
    by_cases k : f = e
    · subst k
      rw [Maps.atKey_put_same hD hk]
      simp [setN] at hf; rw [hf]
    · have hf' : m f = some d := by simpa [setN, k] using hf
      rw [Maps.atKey_put_other (fun c => k (litP_inj (h.sup f d hf') he c)), h.look f d hf']
  · intro k hk'
    by_cases q : k = litP e
    · exact ⟨e, he, q⟩
    · rw [Maps.has_put_other q] at hk'; exact h.key k hk'

/-- The map lies in block b. -/
def MapI (w : World) (b n : Nat) (m : Ns) : Prop := ∃ D, w.ownsMap Try.prog 23 inElem b n D ∧ ReadsI D m
theorem MapI.kept {w w' : World} {b n : Nat} {m : Ns} {row : Option Nat} (h : MapI w b n m) (hg : w.grownBy w' row) (hne : some b ≠ row) : MapI w' b n m := by
  obtain ⟨D, h1, h2⟩ := h
  exact ⟨D, h1.kept hg hne, h2⟩
theorem MapI.new {w w' : World} {b n : Nat} {m : Ns} (h : MapI w b n m) (hg : New w w') : MapI w' b n m := h.kept hg (by simp)
theorem MapI.lt {w : World} {b n : Nat} {m : Ns} (h : MapI w b n m) : b < w.heap.size := by obtain ⟨D, h1, _⟩ := h; exact h1.lt
theorem MapI.mono {w : World} {b n n' : Nat} {m : Ns} (h : MapI w b n m) (hn : n ≤ n') : MapI w b n' m := by obtain ⟨D, h1, h2⟩ := h; exact ⟨D, h1.mono hn, h2⟩
theorem mapI_made (w : World) : MapI (w.alloc (.map #[] 0)) w.heap.size 0 (fun _ => none) := ⟨_, World.ownsMap_made w _ _ _, readsI_empty⟩

theorem zero3 (w : World) : (zeroValue 3).run Try.prog w = .ok (.int .i64 0) w := by kernel_rfl
theorem MapI.sup {w : World} {b n : Nat} {m : Ns} (h : MapI w b n m) {e : Pt} {c : Int} (hm : m e = some c) : CdP e := by obtain ⟨D, _, h2⟩ := h; exact h2.sup e c hm

theorem MapI.look_ok {w : World} {b n : Nat} {m : Ns} (h : MapI w b n m) {e : Pt} (he : CdP e) :
    (Instr.lookup 79 (.map (some b)) (ptV e) true).run Try.prog w = .ok (.tuple #[.int .i64 (atN m e), .bool (m e).isSome]) w := by
  obtain ⟨D, h1, h2⟩ := h
  obtain ⟨v, ps, hr, hv⟩ := h1.look_ok law23 Try.underlying79 (zero3 w) (inElem_mk 0) (key23 he)
  rw [hr, h2.has e he]
  obtain ⟨p, rfl, hp⟩ := inElem_inv hv
  have : p = atN m e := by
    injection hp with hp _
    cases hm : m e with
    | none =>
      have : Maps.has D (litP e) = false := by rw [h2.has e he, hm]; rfl
      rw [Maps.atKey_of_not_has this] at hp
      rw [inD_inj hp.symm]; simp [atN, hm]
    | some c => rw [h2.look e c hm] at hp; rw [inD_inj hp.symm]; simp [atN, hm]
  rw [this]
theorem MapI.look {w : World} {b n : Nat} {m : Ns} (h : MapI w b n m) {e : Pt} (he : CdP e) :
    (Instr.lookup 79 (.map (some b)) (ptV e) false).run Try.prog w = .ok (.int .i64 (atN m e)) w := by
  obtain ⟨D, h1, h2⟩ := h
  obtain ⟨v, ps, hr, hv⟩ := h1.lookup law23 Try.underlying79 (zero3 w) (inElem_mk 0) (key23 he)
  rw [hr]
  obtain ⟨p, rfl, hp⟩ := inElem_inv hv
  have : p = atN m e := by
    injection hp with hp _
    cases hm : m e with
    | none =>
      have : Maps.has D (litP e) = false := by rw [h2.has e he, hm]; rfl
      rw [Maps.atKey_of_not_has this] at hp
      rw [inD_inj hp.symm]; simp [atN, hm]
    | some c => rw [h2.look e c hm] at hp; rw [inD_inj hp.symm]; simp [atN, hm]
  rw [this]
theorem MapI.store {w : World} {b n : Nat} {m : Ns} (h : MapI w b n m) (hn : n < maxLen) {e : Pt} (he : CdP e) (c : Int) :
    ∃ w', (Instr.mapUpdate 79 (.map (some b)) (ptV e) (.int .i64 c)).run Try.prog w = .ok () w' ∧ MapI w' b (n + 1) (setN m e c) ∧ w.mapTurned w' b := by
  obtain ⟨D, h1, h2⟩ := h
  obtain ⟨w', hr, r1, r2⟩ := h1.store law23 Try.underlying79 hn (key23 he) (inElem_mk c)
  exact ⟨w', hr, ⟨_, r1, h2.put h1.isMap he c⟩, r2⟩
/-! ### At the operation -/
section
variable (w : World) {ops : Array Oper} {rest : List Oper} {o : Oper} {a : Act} {Q : Exit → Act → World → Prop}
theorem wpList_lookI_ok (hg : o.guard = none) (x y : Operand) (hop : o.op = Op.lookup 79 x y true) (b n : Nat) (m : Ns) (hm : a.eval x = .map (some b)) (h : MapI w b n m) (e : Pt) (hy : a.eval y = ptV e) (he : CdP e)
    (hK : wpList Try.prog ops Q rest (a.put o.dst (.tuple #[.int .i64 (atN m e), .bool (m e).isSome])) w) : wpList Try.prog ops Q (o :: rest) a w := by
  refine wpList_plain hg fun K' hK' => ?_
  unfold Oper.wp
  simp [execOp, hop, hm, hy, h.look_ok he, Result.andThen]
  exact hK' _ _ hK
theorem wpList_lookI (hg : o.guard = none) (x y : Operand) (hop : o.op = Op.lookup 79 x y false) (b n : Nat) (m : Ns) (hm : a.eval x = .map (some b)) (h : MapI w b n m) (e : Pt) (hy : a.eval y = ptV e) (he : CdP e)
    (hK : wpList Try.prog ops Q rest (a.put o.dst (.int .i64 (atN m e))) w) : wpList Try.prog ops Q (o :: rest) a w := by
  refine wpList_plain hg fun K' hK' => ?_
  unfold Oper.wp
  simp [execOp, hop, hm, hy, h.look he, Result.andThen]
  exact hK' _ _ hK
theorem wpList_storeI (hg : o.guard = none) (x y z : Operand) (hop : o.op = Op.mapUpdate 79 x y z) (b n : Nat) (m : Ns) (hm : a.eval x = .map (some b)) (h : MapI w b n m) (hn : n < maxLen) (e : Pt) (c : Int) (hy : a.eval y = ptV e) (hz : a.eval z = .int .i64 c) (he : CdP e)
    (hK : ∀ w', MapI w' b (n + 1) (setN m e c) → w.mapTurned w' b → wpList Try.prog ops Q rest (a.put o.dst undef) w') : wpList Try.prog ops Q (o :: rest) a w := by
  refine wpList_plain hg fun K' hK' => ?_
  obtain ⟨w', hr, r1, r2⟩ := h.store hn he c
  unfold Oper.wp
  simp [execOp, hop, hm, hy, hz, hr, Result.andThen]
  exact hK' _ _ (hK w' r1 r2)
end


end Go.Proofs.Ytgeoffpcmkofkaa
/- The walk of 'FirstNumbers' of package order. -/
namespace Go.Proofs.Ytgeoffpcmkofkaa
open Go.RowKit Go.Maps Fl
set_option maxRecDepth 100000
attribute [local go_sem ↓] Go.wp_at_zero Go.wp_at_succ

/-- The numbers of the first k points. -/
def numN (l : Pts) : Nat → Ns
  | 0 => fun _ => none
  | k + 1 => match l[k]? with
    | none => numN l k
    | some p => if (numN l k p).isSome then numN l k else setN (numN l k) p k

section
variable (w : World) {ops : Array Oper} {rest : List Oper} {o : Oper} {a : Act} {Q : Exit → Act → World → Prop}
theorem wpList_lookI_some (hg : o.guard = none) (x y : Operand) (hop : o.op = Op.lookup 79 x y true) (b n : Nat) (m : Ns) (hm : a.eval x = .map (some b)) (h : MapI w b n m) (e : Pt) (hy : a.eval y = ptV e) {c : Int} (hc : m e = some c)
    (hK : wpList Try.prog ops Q rest (a.put o.dst (.tuple #[.int .i64 c, .bool true])) w) : wpList Try.prog ops Q (o :: rest) a w :=
  wpList_lookI_ok w hg x y hop b n m hm h e hy (h.sup hc) (by rw [hc, show atN m e = c by simp [atN, hc]]; exact hK)
theorem wpList_lookI_none (hg : o.guard = none) (x y : Operand) (hop : o.op = Op.lookup 79 x y true) (b n : Nat) (m : Ns) (hm : a.eval x = .map (some b)) (h : MapI w b n m) (e : Pt) (hy : a.eval y = ptV e) (he : CdP e) (hc : m e = none)
    (hK : wpList Try.prog ops Q rest (a.put o.dst (.tuple #[.int .i64 0, .bool false])) w) : wpList Try.prog ops Q (o :: rest) a w :=
  wpList_lookI_ok w hg x y hop b n m hm h e hy he (by rw [hc, show atN m e = 0 by simp [atN, hc]]; exact hK)
end

theorem make79 (n : Int) (w : World) : (Instr.makeMap 79 (some (.int .i64 n))).run Try.prog w = .ok (.map (some w.heap.size)) (w.alloc (.map #[] 0)) := by
  simp [Instr.makeMap, run_underlying Try.underlying79, asInt, asIntOf, Result.andThen]

/-- Where the loop stands. -/
structure FN (w wr : World) (b : Nat) (l : Pts) (k : Nat) : Prop where
  new : New w wr
  map : MapI wr b k (numN l k)

set_option maxHeartbeats 1600000 in
theorem first_some (g cap : Nat) (l : Pts) (w : World) (hp : PtsAt w g 0 l) (hg : g < w.heap.size) (hl : l.length ≤ 1000000) (hc : ∀ x ∈ l, CdP x) :
    Calls Try.prog 69 #[.slice (some ⟨g, 0, none⟩) l.length cap] w fun e w' => ∃ b, e = .returned (.map (some b)) ∧ Hid (New w w' ∧ w.heap.size ≤ b ∧ MapI w' b l.length (numN l l.length)) := by
  have HP : Hid (PtsAt w g 0 l ∧ g < w.heap.size ∧ ∀ x ∈ l, CdP x) := ⟨hp, hg, hc⟩
  have hmm := make79 (l.length : Int) w
  clear hp hg hc
  go_enter Try.func69, Try.ntmps69
  go_wp2_with fail
  go_loopw [13] (fun i wr => ∃ k : Nat, i = .int .i64 (k : Int) ∧ k ≤ l.length ∧ Hid (FN w wr w.heap.size l k)) (fun i _ => l.length - (intOf i).toNat)
  case atStart => exact ⟨0, rfl, Nat.zero_le _, (New.refl w).alloc' _, mapI_made w⟩
  case round =>
    obtain ⟨k, rfl, hk, H⟩ := hrel
    rcases Nat.lt_or_ge k l.length with hk' | hk'
    · have hc := HP.out.1.kept HP.out.2.1 H.out.new k hk'
      rw [Nat.zero_add] at hc
      obtain ⟨p, hp⟩ : ∃ p, p = l[k] := ⟨_, rfl⟩
      have HC : Hid (CdP p ∧ l[k]? = some p) := ⟨by rw [hp]; exact HP.out.2.2 _ (List.getElem_mem hk'), by rw [hp]; exact List.getElem?_eq_getElem hk'⟩
      rw [← hp] at hc
      obtain ⟨x0, x1⟩ := hc
      clear hp
      have i0 : (0 : Int) ≤ (k : Int) := by omega
      have i1 : (k : Int) < (l.length : Int) := by omega
      have hw1 : IntKind.i64.wrap ((k : Int) + 1) = (k : Int) + 1 := by rw [IntKind.wrap_i64]; omega
      cases hn : numN l k p with
      | some c =>
        have HN : Hid (numN l (k + 1) = numN l k) := by rw [Hid]; simp only [numN, HC.out.2]; rw [if_pos (by rw [hn]; rfl)]
        go_wp2_with (first
          | (at_lookup; refine wpList_lookI_some _ rfl _ _ rfl w.heap.size k _ rfl (H.out.map.new (New.alloc _ _)) p rfl hn ?_)
          | go_in)
        go_roundw
        case rel => exact ⟨k + 1, by go_num, hk', H.out.new.alloc' _, by rw [HN.out]; exact (H.out.map.new (New.alloc _ _)).mono (by omega)⟩
        case measure => simp [intOf]; omega
      | none =>
        have HN : Hid (numN l (k + 1) = setN (numN l k) p k) := by rw [Hid]; simp only [numN, HC.out.2]; rw [if_neg (by rw [hn]; simp)]
        go_wp2_with (first
          | (at_lookup; refine wpList_lookI_none _ rfl _ _ rfl w.heap.size k _ rfl (H.out.map.new (New.alloc _ _)) p rfl HC.out.1 hn ?_)
          | (at_mapUpdate; refine wpList_storeI _ rfl _ _ _ rfl w.heap.size k _ rfl (H.out.map.new (New.alloc _ _)) (by unfold maxLen; omega) p (k : Int) rfl rfl HC.out.1 ?_
             intro w3 h3 t3
             have H3 : Hid (FN w w3 w.heap.size l (k + 1)) := ⟨(H.out.new.alloc' _).own t3.grown (Nat.le_refl _), by rw [HN.out]; exact h3⟩
             clear h3 t3)
          | go_in)
        go_roundw
        case rel => exact ⟨k + 1, by go_num, hk', H3⟩
        case measure => simp [intOf]; omega
    · have e : k = l.length := by omega
      subst e
      go_wp2_with fail
      go_ret
      exact ⟨_, rfl, H.out.new, Nat.le_refl _, H.out.map⟩

set_option maxHeartbeats 800000 in
theorem first_nil (w : World) : Calls Try.prog 69 #[.slice none 0 0] w fun e w' => ∃ b, e = .returned (.map (some b)) ∧ Hid (New w w' ∧ w.heap.size ≤ b ∧ MapI w' b 0 (fun _ => none)) := by
  have hmm := make79 0 w
  go_enter Try.func69, Try.ntmps69
  go_wp2_with fail
  go_loop [13] (fun i => i = .int .i64 0) (fun _ => 0)
  case atStart => rfl
  case round =>
    subst hrel
    go_wp2_with fail
    go_ret
    exact ⟨_, rfl, (New.refl w).alloc' _, Nat.le_refl _, mapI_made w⟩

end Go.Proofs.Ytgeoffpcmkofkaa
