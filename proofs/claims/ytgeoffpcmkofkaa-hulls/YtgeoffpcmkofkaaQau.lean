/- Pm; Pn; Pa; Mk; Ml; Mm: texts laid into one. -/
import Derived.Test.YtgeoffpcmkofkaaQas
import Derived.Test.YtgeoffpcmkofkaaQah
import Derived.Maps.OwnSet
import Derived.Maps.RangeWalk
import Derived.Maps.Ext
import Derived.DeepKeys4
import Derived.Test.YtgeoffpcmkofkaaQag
import Derived.Deep.AppendLies
import Derived.Lib.AppendZeros
import Derived.Test.YtgeoffpcmkofkaaQat
/- Maps that are keyed by points and by directed sides: what their keys are. -/
namespace Go.Proofs.Ytgeoffpcmkofkaa
open Go.RowKit Go.Maps Fl
set_option maxRecDepth 100000

theorem types_size : Try.prog.types.size = 160 := by kernel_rfl
theorem law23 : Keyed Try.prog 23 := Keyed.of_law (deep_law_laid (m := 5) (by kernel_rfl) (by decide) (by rw [types_size]; decide) (by kernel_rfl) (by kernel_rfl))
theorem wfI {x : Int} (h : Cd x) : (Lit.int .i64 x).wf = true := by
  obtain ⟨h1, h2⟩ := h
  simp [Lit.wf, IntKind.min, IntKind.max, IntKind.signed, IntKind.bits]
  omega
theorem keyT23 : Try.prog.keyType 23 = true := by kernel_rfl
theorem cells23 : Try.prog.cellsOf 23 = 2 := by kernel_rfl
theorem cells3 : Try.prog.cellsOf 3 = 1 := by kernel_rfl

theorem lits3 (d : Nat) {x : Int} (h : Cd x) : Try.prog.keyLits (d + 1) 3 [.int .i64 x] = some [.int .i64 x] := by
  simp [Program.keyLits, Try.underlying3, wfI h]
theorem lits23 (d : Nat) {p : Pt} (h : CdP p) : Try.prog.keyLits (d + 2) 23 [.int .i64 p.1, .int .i64 p.2] = some [.int .i64 p.1, .int .i64 p.2] := by
  unfold Program.keyLits
  rw [Try.underlying23]
  simp [cells23, cells3, lits3 d h.1, lits3 d h.2]
def litP (p : Pt) : Lit := .string (keyBytes [.int .i64 p.1, .int .i64 p.2])
theorem key23 {p : Pt} (h : CdP p) : keyOf Try.prog 23 (ptV p) = some (litP p) := by
  unfold keyOf ptV litP
  rw [Try.underlying23]
  simp [keyT23, Value.formed, Try.underlying23, cells23, Value.cells, lits23 159 h]
theorem ptV_inj {p q : Pt} (h : ptV p = ptV q) : p = q := by
  simp [ptV] at h; exact pt_ext h.1 h.2
theorem litP_inj {p q : Pt} (hp : CdP p) (hq : CdP q) (h : litP p = litP q) : p = q := ptV_inj (law23.inj (key23 hp) (by rw [h]; exact key23 hq))
theorem litP_key {p : Pt} (h : CdP p) : WideAt.IsKeyLit (litP p) := law23.key (key23 h)

def inD (x : Int) : DataW Unit := .lit (.int .i64 x)
theorem inD_inj {p q : Int} (h : inD p = inD q) : p = q := by
  simpa [inD] using h
open Classical in
noncomputable def inElem (v : Value) : Option (DataW Unit × List MemPlace) := if h : ∃ p, v = .int .i64 p then some (inD h.choose, []) else none
theorem inElem_mk (p : Int) : inElem (.int .i64 p) = some (inD p, []) := by
  have h : ∃ q, Value.int .i64 p = .int .i64 q := ⟨p, rfl⟩
  unfold inElem
  rw [dif_pos h]
  have e : Value.int .i64 p = .int .i64 h.choose := h.choose_spec
  injection e with _ e
  rw [← e]
theorem inElem_inv {v : Value} {z : DataW Unit × List MemPlace} (h : inElem v = some z) : ∃ p, v = .int .i64 p ∧ z = (inD p, []) := by
  unfold inElem at h
  split at h
  · rename_i k; injection h with h; exact ⟨_, k.choose_spec, h.symm⟩
  · cases h

/-- Numbers of points. -/
abbrev Ns := Pt → Option Int
def setN (m : Ns) (e : Pt) (c : Int) : Ns := fun f => if f = e then some c else m f
/-- What is looked up. -/
def atN (m : Ns) (e : Pt) : Int := (m e).getD 0
structure ReadsI (D : DataW Unit) (m : Ns) : Prop where
  sup : ∀ e c, m e = some c → CdP e
  has : ∀ e, CdP e → Maps.has D (litP e) = (m e).isSome
  look : ∀ e c, m e = some c → ∀ z, D.atKey (litP e) z = inD c
  key : ∀ k, Maps.has D k = true → ∃ e, CdP e ∧ k = litP e

theorem readsI_empty : ReadsI (.map []) (fun _ => none) := ⟨fun _ _ h => (by cases h), fun _ _ => rfl, fun _ _ h => (by cases h), fun _ h => (by simp [Maps.has] at h)⟩

theorem ReadsI.put {D : DataW Unit} {m : Ns} (h : ReadsI D m) (hD : IsMap D) {e : Pt} (he : CdP e) (c : Int) : ReadsI (D.put (litP e) (inD c)) (setN m e c) := by
  have hk := litP_key he
  refine ⟨?_, ?_, ?_, ?_⟩
  · intro f d hf
    unfold setN at hf
    split at hf
    · rename_i k; rw [k]; exact he
    · exact h.sup f d hf
  · intro f hf
    by_cases k : f = e
    · subst k
      rw [Maps.has_put_same hD hk]; simp [setN]
    · rw [Maps.has_put_other (fun c => k (litP_inj hf he c)), h.has f hf]; simp [setN, k]
  · intro f d hf z
    by_cases k : f = e
    · subst k
      rw [Maps.atKey_put_same hD hk]
      simp [setN] at hf; rw [hf]
    · have hf' : m f = some d := by simpa [setN, k] using hf
      rw [Maps.atKey_put_other (fun c => k (litP_inj (h.sup f d hf') he c)), h.look f d hf']
  · intro k hk'
    by_cases q : k = litP e
    · exact ⟨e, he, q⟩
    · rw [Maps.has_put_other q] at hk'; exact h.key k hk'

/-- The map lies in block b. -/
def MapI (w : World) (b n : Nat) (m : Ns) : Prop := ∃ D, w.ownsMap Try.prog 23 inElem b n D ∧ ReadsI D m
theorem MapI.kept {w w' : World} {b n : Nat} {m : Ns} {row : Option Nat} (h : MapI w b n m) (hg : w.grownBy w' row) (hne : some b ≠ row) : MapI w' b n m := by
  obtain ⟨D, h1, h2⟩ := h
  exact ⟨D, h1.kept hg hne, h2⟩
theorem MapI.new {w w' : World} {b n : Nat} {m : Ns} (h : MapI w b n m) (hg : New w w') : MapI w' b n m := h.kept hg (by simp)
theorem MapI.lt {w : World} {b n : Nat} {m : Ns} (h : MapI w b n m) : b < w.heap.size := by obtain ⟨D, h1, _⟩ := h; exact h1.lt
theorem MapI.mono {w : World} {b n n' : Nat} {m : Ns} (h : MapI w b n m) (hn : n ≤ n') : MapI w b n' m := by obtain ⟨D, h1, h2⟩ := h; exact ⟨D, h1.mono hn, h2⟩
theorem mapI_made (w : World) : MapI (w.alloc (.map #[] 0)) w.heap.size 0 (fun _ => none) := ⟨_, World.ownsMap_made w _ _ _, readsI_empty⟩

theorem zero3 (w : World) : (zeroValue 3).run Try.prog w = .ok (.int .i64 0) w := by kernel_rfl
theorem MapI.sup {w : World} {b n : Nat} {m : Ns} (h : MapI w b n m) {e : Pt} {c : Int} (hm : m e = some c) : CdP e := by obtain ⟨D, _, h2⟩ := h; exact h2.sup e c hm

theorem MapI.look_ok {w : World} {b n : Nat} {m : Ns} (h : MapI w b n m) {e : Pt} (he : CdP e) :
    (Instr.lookup 79 (.map (some b)) (ptV e) true).run Try.prog w = .ok (.tuple #[.int .i64 (atN m e), .bool (m e).isSome]) w := by
  obtain ⟨D, h1, h2⟩ := h
  obtain ⟨v, ps, hr, hv⟩ := h1.look_ok law23 Try.underlying79 (zero3 w) (inElem_mk 0) (key23 he)
  rw [hr, h2.has e he]
  obtain ⟨p, rfl, hp⟩ := inElem_inv hv
  have : p = atN m e := by
    injection hp with hp _
    cases hm : m e with
    | none =>
      have : Maps.has D (litP e) = false := by rw [h2.has e he, hm]; rfl
      rw [Maps.atKey_of_not_has this] at hp
      rw [inD_inj hp.symm]; simp [atN, hm]
    | some c => rw [h2.look e c hm] at hp; rw [inD_inj hp.symm]; simp [atN, hm]
  rw [this]
theorem MapI.look {w : World} {b n : Nat} {m : Ns} (h : MapI w b n m) {e : Pt} (he : CdP e) :
    (Instr.lookup 79 (.map (some b)) (ptV e) false).run Try.prog w = .ok (.int .i64 (atN m e)) w := by
  obtain ⟨D, h1, h2⟩ := h
  obtain ⟨v, ps, hr, hv⟩ := h1.lookup law23 Try.underlying79 (zero3 w) (inElem_mk 0) (key23 he)
  rw [hr]
  obtain ⟨p, rfl, hp⟩ := inElem_inv hv
  have : p = atN m e := by
    injection hp with hp _
    cases hm : m e with
    | none =>
      have : Maps.has D (litP e) = false := by rw [h2.has e he, hm]; rfl
      rw [Maps.atKey_of_not_has this] at hp
      rw [inD_inj hp.symm]; simp [atN, hm]
    | some c => rw [h2.look e c hm] at hp; rw [inD_inj hp.symm]; simp [atN, hm]
  rw [this]
theorem MapI.store {w : World} {b n : Nat} {m : Ns} (h : MapI w b n m) (hn : n < maxLen) {e : Pt} (he : CdP e) (c : Int) :
    ∃ w', (Instr.mapUpdate 79 (.map (some b)) (ptV e) (.int .i64 c)).run Try.prog w = .ok () w' ∧ MapI w' b (n + 1) (setN m e c) ∧ w.mapTurned w' b := by
  obtain ⟨D, h1, h2⟩ := h
  obtain ⟨w', hr, r1, r2⟩ := h1.store law23 Try.underlying79 hn (key23 he) (inElem_mk c)
  exact ⟨w', hr, ⟨_, r1, h2.put h1.isMap he c⟩, r2⟩
/-! ### At the operation -/
section
variable (w : World) {ops : Array Oper} {rest : List Oper} {o : Oper} {a : Act} {Q : Exit → Act → World → Prop}
theorem wpList_lookI_ok (hg : o.guard = none) (x y : Operand) (hop : o.op = Op.lookup 79 x y true) (b n : Nat) (m : Ns) (hm : a.eval x = .map (some b)) (h : MapI w b n m) (e : Pt) (hy : a.eval y = ptV e) (he : CdP e)
    (hK : wpList Try.prog ops Q rest (a.put o.dst (.tuple #[.int .i64 (atN m e), .bool (m e).isSome])) w) : wpList Try.prog ops Q (o :: rest) a w := by
  refine wpList_plain hg fun K' hK' => ?_
  unfold Oper.wp
  simp [execOp, hop, hm, hy, h.look_ok he, Result.andThen]
  exact hK' _ _ hK
theorem wpList_lookI (hg : o.guard = none) (x y : Operand) (hop : o.op = Op.lookup 79 x y false) (b n : Nat) (m : Ns) (hm : a.eval x = .map (some b)) (h : MapI w b n m) (e : Pt) (hy : a.eval y = ptV e) (he : CdP e)
    (hK : wpList Try.prog ops Q rest (a.put o.dst (.int .i64 (atN m e))) w) : wpList Try.prog ops Q (o :: rest) a w := by
  refine wpList_plain hg fun K' hK' => ?_
  unfold Oper.wp
  simp [execOp, hop, hm, hy, h.look he, Result.andThen]
  exact hK' _ _ hK
theorem wpList_storeI (hg : o.guard = none) (x y z : Operand) (hop : o.op = Op.mapUpdate 79 x y z) (b n : Nat) (m : Ns) (hm : a.eval x = .map (some b)) (h : MapI w b n m) (hn : n < maxLen) (e : Pt) (c : Int) (hy : a.eval y = ptV e) (hz : a.eval z = .int .i64 c) (he : CdP e)
    (hK : ∀ w', MapI w' b (n + 1) (setN m e c) → w.mapTurned w' b → wpList Try.prog ops Q rest (a.put o.dst undef) w') : wpList Try.prog ops Q (o :: rest) a w := by
  refine wpList_plain hg fun K' hK' => ?_
  obtain ⟨w', hr, r1, r2⟩ := h.store hn he c
  unfold Oper.wp
  simp [execOp, hop, hm, hy, hz, hr, Result.andThen]
  exact hK' _ _ (hK w' r1 r2)
end


end Go.Proofs.Ytgeoffpcmkofkaa
/- The walk of 'FirstNumbers' of package order. -/
namespace Go.Proofs.Ytgeoffpcmkofkaa
open Go.RowKit Go.Maps Fl
set_option maxRecDepth 100000
attribute [local go_sem ↓] Go.wp_at_zero Go.wp_at_succ

/-- The numbers of the first k points. -/
def numN (l : Pts) : Nat → Ns
  | 0 => fun _ => none
  | k + 1 => match l[k]? with
    | none => numN l k
    | some p => if (numN l k p).isSome then numN l k else setN (numN l k) p k

section
variable (w : World) {ops : Array Oper} {rest : List Oper} {o : Oper} {a : Act} {Q : Exit → Act → World → Prop}
theorem wpList_lookI_some (hg : o.guard = none) (x y : Operand) (hop : o.op = Op.lookup 79 x y true) (b n : Nat) (m : Ns) (hm : a.eval x = .map (some b)) (h : MapI w b n m) (e : Pt) (hy : a.eval y = ptV e) {c : Int} (hc : m e = some c)
    (hK : wpList Try.prog ops Q rest (a.put o.dst (.tuple #[.int .i64 c, .bool true])) w) : wpList Try.prog ops Q (o :: rest) a w :=
  wpList_lookI_ok w hg x y hop b n m hm h e hy (h.sup hc) (by rw [hc, show atN m e = c by simp [atN, hc]]; exact hK)
theorem wpList_lookI_none (hg : o.guard = none) (x y : Operand) (hop : o.op = Op.lookup 79 x y true) (b n : Nat) (m : Ns) (hm : a.eval x = .map (some b)) (h : MapI w b n m) (e : Pt) (hy : a.eval y = ptV e) (he : CdP e) (hc : m e = none)
    (hK : wpList Try.prog ops Q rest (a.put o.dst (.tuple #[.int .i64 0, .bool false])) w) : wpList Try.prog ops Q (o :: rest) a w :=
  wpList_lookI_ok w hg x y hop b n m hm h e hy he (by rw [hc, show atN m e = 0 by simp [atN, hc]]; exact hK)
end

theorem make79 (n : Int) (w : World) : (Instr.makeMap 79 (some (.int .i64 n))).run Try.prog w = .ok (.map (some w.heap.size)) (w.alloc (.map #[] 0)) := by
  simp [Instr.makeMap, run_underlying Try.underlying79, asInt, asIntOf, Result.andThen]

/-- Where the loop stands. -/
structure FN (w wr : World) (b : Nat) (l : Pts) (k : Nat) : Prop where
  new : New w wr
  map : MapI wr b k (numN l k)

set_option maxHeartbeats 1600000 in
theorem first_some (g cap : Nat) (l : Pts) (w : World) (hp : PtsAt w g 0 l) (hg : g < w.heap.size) (hl : l.length ≤ 1000000) (hc : ∀ x ∈ l, CdP x) :
    Calls Try.prog 69 #[.slice (some ⟨g, 0, none⟩) l.length cap] w fun e w' => ∃ b, e = .returned (.map (some b)) ∧ Hid (New w w' ∧ w.heap.size ≤ b ∧ MapI w' b l.length (numN l l.length)) := by
  have HP : Hid (PtsAt w g 0 l ∧ g < w.heap.size ∧ ∀ x ∈ l, CdP x) := ⟨hp, hg, hc⟩
  have hmm := make79 (l.length : Int) w
  clear hp hg hc
  go_enter Try.func69, Try.ntmps69
  go_wp2_with fail
  go_loopw [13] (fun i wr => ∃ k : Nat, i = .int .i64 (k : Int) ∧ k ≤ l.length ∧ Hid (FN w wr w.heap.size l k)) (fun i _ => l.length - (intOf i).toNat)
  case atStart => exact ⟨0, rfl, Nat.zero_le _, (New.refl w).alloc' _, mapI_made w⟩
  case round =>
    obtain ⟨k, rfl, hk, H⟩ := hrel
    rcases Nat.lt_or_ge k l.length with hk' | hk'
    · have hc := HP.out.1.kept HP.out.2.1 H.out.new k hk'
      rw [Nat.zero_add] at hc
      obtain ⟨p, hp⟩ : ∃ p, p = l[k] := ⟨_, rfl⟩
      have HC : Hid (CdP p ∧ l[k]? = some p) := ⟨by rw [hp]; exact HP.out.2.2 _ (List.getElem_mem hk'), by rw [hp]; exact List.getElem?_eq_getElem hk'⟩
      rw [← hp] at hc
      obtain ⟨x0, x1⟩ := hc
      clear hp
      have i0 : (0 : Int) ≤ (k : Int) := by omega
      have i1 : (k : Int) < (l.length : Int) := by omega
      have hw1 : IntKind.i64.wrap ((k : Int) + 1) = (k : Int) + 1 := by rw [IntKind.wrap_i64]; omega
      cases hn : numN l k p with
      | some c =>
        have HN : Hid (numN l (k + 1) = numN l k) := by rw [Hid]; simp only [numN, HC.out.2]; rw [if_pos (by rw [hn]; rfl)]
        go_wp2_with (first
          | (at_lookup; refine wpList_lookI_some _ rfl _ _ rfl w.heap.size k _ rfl (H.out.map.new (New.alloc _ _)) p rfl hn ?_)
          | go_in)
        go_roundw
        case rel => exact ⟨k + 1, by go_num, hk', H.out.new.alloc' _, by rw [HN.out]; exact (H.out.map.new (New.alloc _ _)).mono (by omega)⟩
        case measure => simp [intOf]; omega
      | none =>
        have HN : Hid (numN l (k + 1) = setN (numN l k) p k) := by rw [Hid]; simp only [numN, HC.out.2]; rw [if_neg (by rw [hn]; simp)]
        go_wp2_with (first
          | (at_lookup; refine wpList_lookI_none _ rfl _ _ rfl w.heap.size k _ rfl (H.out.map.new (New.alloc _ _)) p rfl HC.out.1 hn ?_)
          | (at_mapUpdate; refine wpList_storeI _ rfl _ _ _ rfl w.heap.size k _ rfl (H.out.map.new (New.alloc _ _)) (by unfold maxLen; omega) p (k : Int) rfl rfl HC.out.1 ?_
             intro w3 h3 t3
             have H3 : Hid (FN w w3 w.heap.size l (k + 1)) := ⟨(H.out.new.alloc' _).own t3.grown (Nat.le_refl _), by rw [HN.out]; exact h3⟩
             clear h3 t3)
          | go_in)
        go_roundw
        case rel => exact ⟨k + 1, by go_num, hk', H3⟩
        case measure => simp [intOf]; omega
    · have e : k = l.length := by omega
      subst e
      go_wp2_with fail
      go_ret
      exact ⟨_, rfl, H.out.new, Nat.le_refl _, H.out.map⟩

set_option maxHeartbeats 800000 in
theorem first_nil (w : World) : Calls Try.prog 69 #[.slice none 0 0] w fun e w' => ∃ b, e = .returned (.map (some b)) ∧ Hid (New w w' ∧ w.heap.size ≤ b ∧ MapI w' b 0 (fun _ => none)) := by
  have hmm := make79 0 w
  go_enter Try.func69, Try.ntmps69
  go_wp2_with fail
  go_loop [13] (fun i => i = .int .i64 0) (fun _ => 0)
  case atStart => rfl
  case round =>
    subst hrel
    go_wp2_with fail
    go_ret
    exact ⟨_, rfl, (New.refl w).alloc' _, Nat.le_refl _, mapI_made w⟩

end Go.Proofs.Ytgeoffpcmkofkaa
/- The walk of hull's 'cut'. -/
namespace Go.Proofs.Ytgeoffpcmkofkaa
open Go.RowKit Fl
set_option maxRecDepth 100000

/-- The i-th part. -/
def partV (r0 off n i : Nat) : Value := .slice (some ⟨r0, off + i * 16, none⟩) (min 8 (n - 8 * i)) (min 8 (n - 8 * i))
def cutL (r0 off n k : Nat) : List Value := (List.range k).map (partV r0 off n)
theorem Try.info28 : (Try.prog.info? 28).map (fun i => (i.zero, i.size, i.bytes)) = some (some (.slice none 0 0), 1, 24) := by kernel_rfl
structure CutI (r0 off n : Nat) (w wr : World) (v : Value) (k : Nat) : Prop where
  new : New w wr
  own : wr.ownsRow w.heap.size 28 1 v k (cutL r0 off n k)
theorem cutL_succ (r0 off n k : Nat) : cutL r0 off n (k + 1) = cutL r0 off n k ++ [partV r0 off n k] := by simp [cutL, List.range_succ]
set_option maxHeartbeats 1600000 in
theorem cut_some (r0 off n cap : Nat) (w : World) (hn : n ≤ cap) (hs : n ≤ 1000000) :
    Calls Try.prog 90 #[.slice (some ⟨r0, off, none⟩) n cap] w fun e w' => ∃ v, e = .returned v ∧ Hid (CutI r0 off n w w' v ((n + 7) / 8)) := by
  obtain ⟨i0, hi0, hz0, hz1, hz2⟩ := info_parts Try.info28
  go_enter Try.func90, Try.ntmps90
  go_wp2_with fail
  go_loopw [3, 4] (fun v i wr => ∃ (k : Nat), i = .int .i64 ((8 * k : Nat) : Int) ∧ 8 * k < n + 8 ∧ Hid (CutI r0 off n w wr v k))
    (fun _ i _ => n + 8 - (intOf i).toNat)
  case atStart => exact ⟨0, rfl, by omega, ⟨New.refl _, World.ownsRow_nil _ _ _ _⟩⟩
  case round =>
    obtain ⟨k, rfl, hle, H⟩ := hrel
    by_cases hk : 8 * k < n
    · by_cases h8 : 8 * k + 8 ≤ n
      · have hw8 : IntKind.i64.wrap ((8 * k : Nat) + 8 : Int) = (8 * k : Nat) + 8 := by rw [IntKind.wrap_i64]; omega
        obtain ⟨vk, wk, k1, k2, k3, k4⟩ := run_append_own (P := Try.prog) (wr.alloc (.cells #[.slice (some ⟨r0, off + 8 * k * 2, none⟩) 8 8] 28)) w.heap.size 106 106 28 i0 _ 1 24 Try.underlying106 hi0 hz0 hz1 hz2 rfl (by omega) u3 k (cutL r0 off n k) (H.out.own.alloc _)
          ⟨wr.heap.size, 0, none⟩ 1 1 [.slice (some ⟨r0, off + 8 * k * 2, none⟩) 8 8] rfl (World.news_of_block (cs := #[.slice (some ⟨r0, off + 8 * k * 2, none⟩) 8 8]) (t := 28) (fr := (0, 0)) (heap_alloc_new wr _)) (by simp [Value.oneCell']) (by unfold maxLen; omega) (by omega) (by have := H.out.new.size; simp; omega)
        have R : Hid (CutI r0 off n w wk vk (k + 1)) := by
          have e : partV r0 off n k = .slice (some ⟨r0, off + 8 * k * 2, none⟩) (8) (8) := by
            unfold partV
            rw [show min 8 (n - 8 * k) = 8 by omega, show k * 16 = 8 * k * 2 by omega]
          refine ⟨(H.out.new.alloc' _).trans k3 fun g hg => ?_, by rw [cutL_succ, e]; exact k2⟩
          rcases Nat.lt_or_ge g w.heap.size with h1 | h1
          · exact absurd hg.symm (own_ne H.out.own h1)
          · exact h1
        clear k2 k3 k4
        go_wp2_with (first | (at_builtin; refine Go.Lib.wpList_append_run _ rfl _ _ 106 106 rfl _ _ rfl rfl vk wk k1 ?_) | go_in)
        go_roundw
        case rel => exact ⟨k + 1, by go_num, by omega, R⟩
        case measure => simp [intOf]; omega
      · have hlt : n < 8 * k + 8 := by omega
        obtain ⟨vk, wk, k1, k2, k3, k4⟩ := run_append_own (P := Try.prog) (wr.alloc (.cells #[.slice (some ⟨r0, off + 8 * k * 2, none⟩) (n - 8 * k) (n - 8 * k)] 28)) w.heap.size 106 106 28 i0 _ 1 24 Try.underlying106 hi0 hz0 hz1 hz2 rfl (by omega) u3 k (cutL r0 off n k) (H.out.own.alloc _)
          ⟨wr.heap.size, 0, none⟩ 1 1 [.slice (some ⟨r0, off + 8 * k * 2, none⟩) (n - 8 * k) (n - 8 * k)] rfl (World.news_of_block (cs := #[.slice (some ⟨r0, off + 8 * k * 2, none⟩) (n - 8 * k) (n - 8 * k)]) (t := 28) (fr := (0, 0)) (heap_alloc_new wr _)) (by simp [Value.oneCell']) (by unfold maxLen; omega) (by omega) (by have := H.out.new.size; simp; omega)
        have R : Hid (CutI r0 off n w wk vk (k + 1)) := by
          have e : partV r0 off n k = .slice (some ⟨r0, off + 8 * k * 2, none⟩) ((n - 8 * k)) ((n - 8 * k)) := by
            unfold partV
            rw [show min 8 (n - 8 * k) = (n - 8 * k) by omega, show k * 16 = 8 * k * 2 by omega]
          refine ⟨(H.out.new.alloc' _).trans k3 fun g hg => ?_, by rw [cutL_succ, e]; exact k2⟩
          rcases Nat.lt_or_ge g w.heap.size with h1 | h1
          · exact absurd hg.symm (own_ne H.out.own h1)
          · exact h1
        clear k2 k3 k4
        go_wp2_with (first | (at_builtin; refine Go.Lib.wpList_append_run _ rfl _ _ 106 106 rfl _ _ rfl rfl vk wk k1 ?_) | go_in)
        go_roundw
        case rel => exact ⟨k + 1, by go_num, by omega, R⟩
        case measure => simp [intOf]; omega
    · have hm : (n + 7) / 8 = k := by omega
      go_wp2_with fail
      go_ret
      exact ⟨u3, rfl, by rw [hm]; exact H⟩
end Go.Proofs.Ytgeoffpcmkofkaa
/- The corners of the parts, by goroutines: the whole call. -/
namespace Go.Proofs.Ytgeoffpcmkofkaa
open Go Go.Conc Go.RowKit
set_option maxRecDepth 100000

noncomputable def head71 : Code := match Try.f71.body with
  | some (.seq _ (.seq _ (.seq (.seq r _) _))) => r
  | _ => .skip
theorem fs90 : FSof fsI 90 := by decide
theorem New.same {w w' w2 : World} (h : New w w') (k : Same w' w2) (T : Nat → Question → Nat) (d : Nat) : New (mv w T d) (mv w2 T d) := ⟨k.os.trans h.os, rfl, k.output.trans h.output, by rw [show (mv w2 T d).heap = w2.heap from rfl, k.heap]; exact h.size, fun r hr hn => by rw [show (mv w2 T d).heap = w2.heap from rfl, k.heap]; exact h.block r hr hn⟩
/-- What is kept of old memory. -/
structure Kept (w w' : World) : Prop where
  os : w'.os = w.os
  output : w'.output = w.output
  size : w.heap.size ≤ w'.heap.size
  block : ∀ r, r < w.heap.size → w'.heap[r]? = w.heap[r]?
theorem Kept.refl (w : World) : Kept w w := ⟨rfl, rfl, Nat.le_refl _, fun _ _ => rfl⟩
theorem Kept.trans {w w1 w2 : World} (h : Kept w w1) (k : Kept w1 w2) : Kept w w2 := ⟨k.os.trans h.os, k.output.trans h.output, Nat.le_trans h.size k.size, fun r hr => (k.block r (Nat.lt_of_lt_of_le hr h.size)).trans (h.block r hr)⟩
theorem Kept.same {w w1 w2 : World} (h : Kept w w1) (k : Same w1 w2) : Kept w w2 := h.trans ⟨k.os, k.output, by rw [k.heap]; exact Nat.le_refl _, fun r _ => by rw [k.heap]⟩
theorem New.kept0 {w w1 w' : World} (h : New w1 w') (k : Same w w1) : Kept w w' := ⟨h.os.trans k.os, h.output.trans k.output, by rw [← k.heap]; exact h.size, fun r hr => by rw [← k.heap]; exact h.block r (by rw [k.heap]; exact hr) (by simp)⟩
/-- What cut leaves. -/
structure CutK (r0 off n : Nat) (w w' : World) (v : Value) (m : Nat) : Prop where
  kept : Kept w w'
  own : w'.ownsRow w.heap.size 28 1 v m (cutL r0 off n m)
theorem owns_same {w w1 : World} {N e size n : Nat} {v : Value} {xs : List Value} (h : w.ownsRow N e size v n xs) (k : Same w w1) : w1.ownsRow N e size v n xs := by
  refine ⟨h.1, h.2.imp id fun ⟨g, cap, cur, h1, h2, h3, h4⟩ => ⟨g, cap, cur, h1, h2, ?_, h4⟩⟩
  rw [k.heap]
  exact h3
theorem own_base {w : World} {N N' e size n : Nat} {v : Value} {xs : List Value} (hN : N ≤ N') (h : w.ownsRow N' e size v n xs) : w.ownsRow N e size v n xs := ⟨h.1, h.2.imp id fun ⟨g, cap, cur, h1, h2, h3⟩ => ⟨g, cap, cur, h1, Nat.le_trans hN h2, h3⟩⟩
/-- The row that is handed on. -/
structure Out71 (w w' : World) (v : Value) (pts : Pts) : Prop where
  kept : Kept w w'
  row : w'.ownsRow w.heap.size 23 2 v pts.length (flatP pts)
  ints : AllRow IsI w' v
/-- Where the call is about to return. -/
def Fin71 (x : Frame) (cs : List Frame) (w : World) (pts : Pts) (a : Goroutine) (w' : World) : Prop := ∃ tmps todo av, a = G { (base 71).at { tmps := tmps, defers := [] } todo with mode := .returning } (x :: cs) ∧ tmps.getD 2 undef = av ∧ Out71 w w' av pts
set_option maxHeartbeats 1000000 in
theorem A.parts {Post : Value → World → Prop} {r0 off n cap : Nat} {c : Array Value} {outs : Nat → Pts} {w : World} {x : Frame} {cs : List Frame} (hn : n ≤ 1000) (hcap : n ≤ cap) (hw : w.heap[r0]? = some (.cells c 23 (0, 0))) (hc : ∀ x ∈ c.toList, ∃ n, x = .int .i64 n) (hr : GN ≤ r0)
    (hC : ∀ i, i < (n + 7) / 8 → AroundC r0 (off + i * 16) (min 8 (n - 8 * i)) (min 8 (n - 8 * i)) c (outs i)) (hlen : (cat outs ((n + 7) / 8)).length ≤ 10000) (hl1 : ∀ i, (outs i).length ≤ 1000)
    (h : ∀ v w', Out71 w w' v (cat outs ((n + 7) / 8)) → A Try.prog Post (x.finish v) cs w') :
    A Try.prog Post (Frame.enter Try.prog 71 #[.slice (some ⟨r0, off, none⟩) n cap] .normal) (x :: cs) w := by
  have hlt : r0 < w.heap.size := (Array.getElem?_eq_some_iff.1 hw).1
  rw [Conc.enter_at _ Try.func71 (c := Try.f71.body.getD .skip) rfl]
  walk_nrmf Try.f71
  refine .ctl (fun _ => stepG_seq) ?_
  refine .ctl (fun _ => stepG_region) ?_
  walk_nrm
  refine .mov (.slice none 0 0) rfl rfl (.inr rfl) rfl (by decide) ?_
  walk_nrm
  refine .ctl (fun _ => stepG_region_end) ?_
  refine .ctl (fun _ => stepG_seq) ?_
  refine .ctl (fun _ => stepG_region) ?_
  walk_nrm
  refine .mov (.slice none 0 0) rfl rfl (.inr rfl) rfl (by decide) ?_
  walk_nrm
  refine .ctl (fun _ => stepG_region_end) ?_
  refine .ctl (fun _ => stepG_seq) ?_
  refine .ctl (fun _ => stepG_seq) ?_
  refine .ctl (fun _ => stepG_region) ?_
  walk_nrm
  refine .mov (.slice (some ⟨r0, off, none⟩) n cap) rfl rfl (.inl rfl) rfl (by decide) ?_
  walk_nrm
  refine .ent (f := 90) (xs := #[.slice (some ⟨r0, off, none⟩) n cap]) rfl rfl (by decide) (fun w' => by go_simp) (fun w' => by simp [go_sem, callFunc, Try.func90, Try.f90]) ?_
  refine A.call bodP noEarly fs90 Try.func90 (c := Try.f90.body.getD .skip) rfl (Q := fun v w' => CutK r0 off n w w' v ((n + 7) / 8)) (fun v w1 w2 k q => ⟨q.kept.same k, owns_same q.own k⟩) (fun w' hs => (cut_some r0 off n cap w' hcap (by omega)).mono ?_) fun pcv w1 hq => ?_
  · rintro e w2 ⟨v, rfl, H⟩
    refine ⟨v, rfl, H.out.new.kept0 hs, ?_⟩
    have := H.out.own
    rw [show w'.heap.size = w.heap.size by rw [hs.heap]] at this
    exact this
  rw [Frame.finish_at]
  walk_nrm
  -- the others are started
  have hsz1 := hq.kept.size
  have hrow1 : w1.heap[r0]? = some (.cells c 23 (0, 0)) := by rw [hq.kept.block r0 hlt]; exact hw
  refine A.of_MB (Fin := Fin71 x cs w (cat outs ((n + 7) / 8))) (fun w2 hs => ?_) fun a w' hf => ?_
  · have hpcv : ∃ b cap, pcv = .slice b ((n + 7) / 8) cap := by
      rcases hq.own.2 with ⟨e, e2⟩ | ⟨g, cap, cur, e1, _⟩
      · exact ⟨none, 0, by rw [e, e2]⟩
      · exact ⟨_, cap, e1⟩
    refine .val (.int .i64 ((n + 7) / 8 : Nat)) rfl rfl (by decide) (fun w3 _ => ?_) (fun w3 _ => ?_) ?_
    · obtain ⟨b, cap, rfl⟩ := hpcv
      go_simp
    · obtain ⟨b, cap, rfl⟩ := hpcv
      simp [go_sem]
    walk_nrm
    refine .mov (.int .i64 0) rfl rfl (.inl rfl) rfl (by decide) ?_
    walk_nrm
    refine .ctl rfl rfl (fun _ => stepG_region_end) ?_
    refine .ctl rfl rfl (fun _ => stepG_block) ?_
    refine .ctl rfl rfl (fun _ => stepG_loop) ?_
    have hs2 : w2.heap.size = w1.heap.size := by rw [hs.heap]
    refine start71 (N := w1.heap.size) (ws := w2) (outs := outs) (parts := partV r0 off n) (m := (n + 7) / 8) (by omega) hlen (fun hm => ?_) (fun i _ => ⟨_, _, _, rfl⟩) (fun i hi ch w3 hold hle => ?_) (fun O w3 pv cl av tmps todo hM ht => ⟨tmps, todo, av, rfl, ht, hq.kept.trans ⟨hM.m0.os.trans hs.os, hM.m0.output.trans hs.output, hM.m0.size, fun r hr => by rw [hM.m0.old r hr, hs.heap]⟩, own_base hsz1 hM.a, hM.ai⟩) ((n + 7) / 8) 0 (by omega) _ w2 _ [] _ _ _ _ _ _ _ _ _ _ _ _ _ _ rfl ?_ ?_ ?_
    · rcases hq.own.2 with ⟨_, e2⟩ | ⟨g, cap', cur, e1, e2, e3, e4, e5, e6, e7⟩
      · omega
      · refine ⟨g, cap', e1, (Array.getElem?_eq_some_iff.1 e3).1, fun i hi => ?_⟩
        have h1 : cur.toList[i]? = some (partV r0 off n i) := by
          have : (cur.toList.take ((n + 7) / 8 * 1))[i]? = some (partV r0 off n i) := by
            rw [e7]
            simp [cutL, hi]
          rw [List.getElem?_take_of_lt (by omega)] at this
          exact this
        simp only [World.cell?, hs.heap, e3]
        simpa using h1
    · refine kid71 (hC i hi) ?_ hc ?_ hr (by omega) (hl1 i)
      · rw [hold r0 (by omega), hs.heap]
        exact hrow1
      · omega
    · exact ⟨⟨fun r h => h.elim, fun _ _ => rfl, by rw [hs2]; exact Nat.le_refl _, rfl, rfl⟩, ⟨rfl, .inl ⟨rfl, rfl⟩⟩, (fun g hg => by cases hg), ⟨rfl, .inl ⟨rfl, rfl⟩⟩, (fun g hg => by cases hg), (fun g hg => by cases hg), (fun g hg => by cases hg)⟩
    · exact ⟨(fun i c _ hc => by simp at hc), (fun c o hc => by cases hc), (fun i i' c hc => by simp at hc)⟩
    · exact fun i c hc => by simp at hc
  · obtain ⟨tmps, todo, av, rfl, ht, hO⟩ := hf
    refine ⟨_, _, rfl, ?_⟩
    refine .ctl (fr1 := x.finish av) (cs1 := cs) (fun w3 => ?_) (h av w' hO)
    refine stepG_leave rfl rfl Try.func71 ?_ ?_
    · subst ht
      simp [results, Try.f71]
    · simp [results, Try.f71]
end Go.Proofs.Ytgeoffpcmkofkaa
/- A piece of a function's code that has a lone contract, beside goroutines that only leave. -/
namespace Go.Proofs.Ytgeoffpcmkofkaa
open Go Go.Conc

/-- More to do behind it. -/
def more (k : List Item) (fr : Frame) : Frame := { fr with todo := fr.todo ++ k }
/-- .. in the frame under all. -/
def moreL (k : List Item) : List Frame → List Frame
  | [] => []
  | [x] => [more k x]
  | x :: y :: l => x :: moreL k (y :: l)
def moreF (k : List Item) (fr : Frame) : List Frame → Frame
  | [] => more k fr
  | _ :: _ => fr
theorem moreL_cons (k : List Item) (fr : Frame) : ∀ l : List Frame, moreL k (fr :: l) = moreF k fr l :: moreL k l
  | [] => rfl
  | _ :: _ => rfl
theorem exitTo_more {id : Nat} (k2 : List Item) : ∀ {k k' : List Item}, exitTo id k = some k' → exitTo id (k ++ k2) = some (k' ++ k2)
  | [], k', h => by simp [exitTo] at h
  | it :: k, k', h => by
    cases it with
    | inBlock id' =>
      simp only [exitTo, List.cons_append] at h ⊢
      split at h
      · rename_i e; injection h with h; subst h; rw [if_pos e]
      · rename_i e; rw [if_neg e]; exact exitTo_more k2 h
    | _ => simpa only [exitTo, List.cons_append] using exitTo_more k2 (by simpa only [exitTo] using h)
theorem more_finish {fr : Frame} {ops : Array Oper} {i : Nat} {rest : List Nat} {k0 : List Item} (k : List Item) (ht : fr.todo = .inRegion ops (i :: rest) :: k0) (v : Value) : (more k fr).finish v = more k (fr.finish v) := by
  unfold more Frame.finish
  simp only [ht, List.cons_append]
section
variable {P : Program} {FS : FuncId → Prop} {Post : Value → World → Prop}
theorem ctl_more {fr fr1 : Frame} (k2 : List Item) (hf : FP P FS fr) (hne : fr.todo ≠ []) (hc : ctl fr = some fr1) : ctl (more k2 fr) = some (more k2 fr1) := by
  have hi := hf.todo
  unfold ctl at hc ⊢
  cases ht : fr.todo with
  | nil => exact absurd ht hne
  | cons it k =>
    have h0 := hi it (by rw [ht]; simp)
    rw [ht] at hc
    have e : (more k2 fr).todo = it :: (k ++ k2) := by simp [more, ht]
    rw [e]
    cases it with
    | inBlock id => injection hc with hc; subst hc; rfl
    | inLoop b => injection hc with hc; subst hc; rfl
    | inScope b => exact h0.elim
    | inRangeFunc l => exact h0.elim
    | endRangeFunc l => exact h0.elim
    | beginRound => exact h0.elim
    | call => exact h0.elim
    | extern => exact h0.elim
    | inRegion ops todo =>
      cases todo with
      | nil => injection hc with hc; subst hc; rfl
      | cons i rest =>
        simp only at hc ⊢
        split at hc
        · cases hc
        · rename_i hw
          injection hc with hc
          subst hc
          rw [if_neg (by exact hw), more_finish k2 ht]
    | code c =>
      cases c with
      | skip => injection hc with hc; subst hc; rfl
      | ret => injection hc with hc; subst hc; simp [more]
      | label l => exact h0.elim
      | seq a b => injection hc with hc; subst hc; rfl
      | block id b => injection hc with hc; subst hc; rfl
      | loop b => injection hc with hc; subst hc; rfl
      | scope b => exact h0.elim
      | rangeFunc => exact h0.elim
      | refuse why => exact h0.elim
      | goto l => exact h0.elim
      | region id ops draw =>
        cases draw with
        | false => injection hc with hc; subst hc; rfl
        | true => cases hc
      | cond c a b =>
        have ee : (more k2 fr).eval c = fr.eval c := by cases c <;> rfl
        simp only at hc ⊢
        rw [ee]
        split at hc
        · injection hc with hc; subst hc; rfl
        · injection hc with hc; subst hc; rfl
        · cases hc
      | exit id =>
        simp only at hc ⊢
        cases he : exitTo id k with
        | none => rw [he] at hc; cases hc
        | some k' =>
          rw [he] at hc
          injection hc with hc
          subst hc
          rw [exitTo_more k2 he]
          rfl
theorem more_eval (k : List Item) (fr : Frame) : (more k fr).eval = fr.eval := funext fun x => by cases x <;> rfl
/-- The steps of a lone run, with more to do behind. -/
theorem StepP.more {fr fr1 : Frame} {l l1 c : List Frame} {w w1 : World} {es : Array Event} (k : List Item) (hf : FP P FS fr) (hl : FPs P FS l) (h : StepP P fr (l ++ [shut P]) w fr1 (l1 ++ [shut P]) w1 es) (hend : fr.mode = .returning → l ≠ []) (hne : l = [] → fr.todo ≠ []) :
    StepP P (moreF k fr l) (moreL k l ++ c) w (moreF k fr1 l1) (moreL k l1 ++ c) w1 es := by
  generalize hcs : l ++ [shut P] = x at h
  generalize hcs1 : l1 ++ [shut P] = y at h
  cases h with
  | ctl h1 h2 =>
    have : l1 = l := by rw [← hcs] at hcs1; simpa using hcs1
    subst this
    cases l1 with
    | nil => exact .ctl h1 (ctl_more k hf (hne rfl) h2)
    | cons y l => exact .ctl h1 h2
  | draw h1 h2 h3 =>
    have : l1 = l := by rw [← hcs] at hcs1; simpa using hcs1
    subst this
    cases l1 with
    | nil =>
      refine StepP.draw (fr := Ytgeoffpcmkofkaa.more k fr) h1 ?_ h3
      show fr.todo ++ k = _
      rw [h2]
      rfl
    | cons y l => exact .draw h1 h2 h3
  | oper h1 h2 h3 h4 h5 h6 =>
    rename_i ops i rest k0 o n es0
    have key : ∀ fr' : Frame, fr' = moreF k fr l → after P fr' (moreL k l ++ c) n = some (moreF k fr1 l1, moreL k l1 ++ c) := by
      rintro fr' rfl
      cases n <;> simp only [after, reduceCtorEq, Option.some.injEq, Prod.mk.injEq] at h6 ⊢
      · obtain ⟨rfl, h7⟩ := h6
        have : l1 = l := by rw [← hcs1, ← hcs] at h7; simpa using h7.symm
        subst this
        cases l1 with
        | nil => exact ⟨more_finish k h2 _, rfl⟩
        | cons y l => exact ⟨rfl, rfl⟩
      · obtain ⟨rfl, h7⟩ := h6
        have : l1 = l := by rw [← hcs1, ← hcs] at h7; simpa using h7.symm
        subst this
        cases l1 with
        | nil => exact ⟨more_finish k h2 _, rfl⟩
        | cons y l => exact ⟨rfl, rfl⟩
      · obtain ⟨rfl, h7⟩ := h6
        have : l1 = fr :: l := by
          rw [← hcs1, ← hcs, ← List.cons_append] at h7
          exact (List.append_cancel_right h7).symm
        subst this
        exact ⟨rfl, by rw [moreL_cons]; rfl⟩
    cases l with
    | nil =>
      have e := more_eval k fr
      refine StepP.oper (fr := Ytgeoffpcmkofkaa.more k fr) (ops := ops) (i := i) (rest := rest) (k := k0 ++ k) h1 ?_ h3 h4 (by rw [e]; exact h5) (key _ rfl)
      show fr.todo ++ k = _
      rw [h2]
      rfl
    | cons z l => exact .oper h1 h2 h3 h4 h5 (key _ rfl)
  | ret h1 h2 h3 =>
    rename_i vv _
    cases l with
    | nil => exact absurd rfl (hend h1)
    | cons z l =>
      simp only [List.cons_append, List.cons.injEq] at hcs
      obtain ⟨rfl, hcs⟩ := hcs
      have : l1 = l := by rw [← hcs] at hcs1; simpa using hcs1
      subst this
      obtain ⟨_, _, ops, i, rest, k0, h7⟩ := hl z (by simp)
      rw [moreL_cons]
      have : moreF k (z.finish vv) l1 = (moreF k z l1).finish vv := by
        cases l1 with
        | nil => exact (more_finish k h7 _).symm
        | cons y l => rfl
      rw [this]
      exact .ret h1 h2 h3
theorem StepP.goesN {main : Bool} {fr fr1 : Frame} {cs cs1 : List Frame} {w w1 : World} {st : GoStatus} {off : Option (Array CommCase × CommShape)} {es : Array Event} (hr : fr.roundOf = none) (hk : fr.kind = .normal) (hd : fr.defers = []) (h : StepP P fr cs w fr1 cs1 w1 es) : stepG P main { frame := fr, callers := cs, status := st, dying := none, offers := off } w = .go { frame := fr1, callers := cs1, status := .running, dying := none } w1 es := by
  cases h with
  | ctl h1 h2 => exact step_ctl h1 hr h2
  | draw h1 h2 h3 => exact step_draw h1 h2 h3
  | oper h1 h2 h3 h4 h5 h6 => exact step_oper h1 hr hk h2 h3 h4 h5 h6
  | ret h1 h2 h3 => exact step_retE h1 hd hk h2 h3
theorem ctl_ret {fr fr1 : Frame} (hm : fr.mode = .run) (hne : fr.todo ≠ []) (hc : Ytgeoffpcmkofkaa.ctl fr = some fr1) (h1 : fr1.mode = .returning) : fr1.todo ≠ [] := by
  unfold Ytgeoffpcmkofkaa.ctl at hc
  split at hc
  · rename_i h; exact absurd h hne
  · injection hc with hc; subst hc; exact hne
  all_goals first
    | (injection hc with hc; subst hc; simp only [hm] at h1; cases h1)
    | (split at hc <;> first
        | (injection hc with hc; subst hc; simp only [hm, finish_mode] at h1; cases h1)
        | (injection hc with hc; subst hc; rw [finish_mode, hm] at h1; cases h1)
        | cases hc)
    | (obtain ⟨k', _, rfl⟩ := Option.map_eq_some_iff.1 hc; simp only [hm] at h1; cases h1)
    | cases hc
theorem StepP.stays {fr fr1 : Frame} {l l1 : List Frame} {w w1 : World} {es : Array Event} (hl : FPs P FS l) (h : StepP P fr (l ++ [shut P]) w fr1 (l1 ++ [shut P]) w1 es) (hend : fr.mode = .returning → l ≠ []) (hne : l = [] → fr.todo ≠ []) (hl1 : l1 = []) (hm1 : fr1.mode = .returning) : fr1.todo ≠ [] := by
  generalize hcs : l ++ [shut P] = x at h
  generalize hcs1 : l1 ++ [shut P] = y at h
  cases h with
  | ctl h1 h2 =>
    have : l1 = l := by rw [← hcs] at hcs1; simpa using hcs1
    subst this
    exact ctl_ret h1 (hne hl1) h2 hm1
  | draw h1 h2 h3 =>
    rw [show _ = FrameMode.run from h1] at hm1
    cases hm1
  | oper h1 h2 h3 h4 h5 h6 =>
    rename_i n _
    cases n <;> simp only [after, reduceCtorEq, Option.some.injEq, Prod.mk.injEq] at h6
    · rw [← h6.1, finish_mode, h1] at hm1; cases hm1
    · rw [← h6.1, finish_mode, h1] at hm1; cases hm1
    · rw [← h6.1] at hm1; simp [Frame.enter] at hm1
  | ret h1 h2 h3 =>
    cases l with
    | nil => exact absurd rfl (hend h1)
    | cons z l =>
      simp only [List.cons_append, List.cons.injEq] at hcs
      obtain ⟨rfl, hcs⟩ := hcs
      rw [finish_mode, (hl z (by simp)).2.1] at hm1
      cases hm1
/-- A lone run, as a tree, beside others, with more to do behind. -/
theorem A.of_ends_more (HB : BodP P FS) {PostF : Frame → World → Prop} {fr : Frame} {l cs : List Frame} {w : World} (k : List Item) (he : EndsP P PostF fr l w) : GoodP P FS fr l → (l = [] → fr.mode = .returning → fr.todo ≠ []) →
    (∀ fr w, FP P FS fr → fr.mode = .run → fr.todo = [] → PostF { fr with mode := .returning } w → A P Post (Ytgeoffpcmkofkaa.more k fr) cs w) →
    (∀ fr w, FP P FS fr → fr.mode = .returning → fr.todo ≠ [] → PostF fr w → A P Post (Ytgeoffpcmkofkaa.more k fr) cs w) → A P Post (moreF k fr l) (moreL k l ++ cs) w := by
  induction he with
  | done hm hp => exact fun hg hne _ hR => hR _ _ hg.2.1 hm (hne rfl hm) hp
  | @step fr l w hend hsome hall ih =>
    intro hg hne hN hR
    by_cases hz : l = [] ∧ fr.todo = []
    · obtain ⟨rfl, ht⟩ := hz
      have hrun : fr.mode = .run := hg.1.elim id fun h => absurd rfl (hend h)
      have hs : StepP P fr ([] ++ [shut P]) (on w w.tape) { fr with mode := .returning } ([] ++ [shut P]) (on w w.tape) #[] := .ctl hrun (by unfold Ytgeoffpcmkofkaa.ctl; rw [ht])
      have he := hall w.tape _ [] _ _ hs
      cases he with
      | done h1 h2 => exact hN fr w hg.2.1 hrun ht h2
      | step h1 _ _ => exact absurd rfl (h1 rfl)
    refine .one fun w' hs => ?_
    obtain ⟨fr1, l1, w1, es, hst⟩ := hsome fun i q => w'.tape (w'.drawn + (i - w.drawn)) q
    obtain ⟨h1, h2, h3, h4, h5⟩ := hst.mvP HB hg.2.1
    obtain ⟨l2, e, hg1⟩ := hg.step HB hend hst
    have : l1 = l2 := by simpa using e
    subst this
    have hst' := h5 w'.tape w'.drawn fun i q _ => by
      show w'.tape (w'.drawn + i) q = w'.tape (w'.drawn + (w.drawn + i - w.drawn)) q
      rw [Nat.add_sub_cancel_left]
    have ew : mv (on w fun i q => w'.tape (w'.drawn + (i - w.drawn)) q) w'.tape w'.drawn = w' := by
      obtain ⟨hh, ho, hu⟩ := hs
      cases w'
      cases w
      simp only at hh ho hu
      subst hh ho hu
      rfl
    rw [ew] at hst'
    have hne2 : l = [] → fr.todo ≠ [] := fun a b => hz ⟨a, b⟩
    have hne1 : l1 = [] → fr1.mode = .returning → fr1.todo ≠ [] := hst.stays hg.2.2 hend hne2
    have hA := ih _ fr1 l1 w1 es hst hg1 hne1 hN hR
    refine ⟨moreF k fr1 l1, moreL k l1 ++ cs, _, es, (hst'.more (c := cs) k hg.2.1 hg.2.2 hend hne2).goesN ?_ ?_ ?_, h4, ?_, hA.same ⟨rfl, rfl, rfl⟩⟩
    · cases l <;> exact hg.2.1.round
    · cases l <;> exact hg.2.1.kind
    · cases l <;> exact hg.2.1.defers
    have : w'.heap.size = w.heap.size := by rw [hs.heap]
    rw [this]
    exact h3
/-- What a piece of code ends in. -/
def PostC (b : Frame) (Q : Act → World → Prop) (fr : Frame) (w : World) : Prop := ∃ a, fr = { b.at a [] with mode := .returning } ∧ Q a w
/-- A piece of code with a lone contract on every tape: it is gone through beside others. -/
theorem A.seg (HB : BodP P FS) (HN : NoEarly P) {b : Frame} {fn : Func} (hb : P.funcs[b.fn]? = some fn) (hbk : b.kind = .normal) {c : Code} (hc : CodeP P FS c) {k : List Item} {cs : List Frame} {a : Act} (ha : a.defers = []) {w : World} {Q : Act → World → Prop}
    (hQ : ∀ a w w', Same w w' → Q a w → Q a w') (h : ∀ w', Same w w' → c.wp P (fun e a w => e = .normal ∧ Q a w) a w') (kN : ∀ a' w', Q a' w' → A P Post (b.at a' k) cs w') : A P Post (b.at a (.code c :: k)) cs w := by
  have hg : GoodP P FS (b.at a [.code c]) [] := ⟨.inl rfl, ⟨⟨fn, hb⟩, fun i hi => by simp [Frame.at] at hi; subst hi; exact hc, ha, hbk, rfl⟩, fun x hx => by simp at hx⟩
  have he : EndsP P (PostC b Q) (b.at a [.code c]) [] w := by
    refine ends_of_reachP HB (fun fr w T hp => ?_) hg fun T => ?_
    · obtain ⟨a, h1, h2⟩ := hp
      exact ⟨a, h1, hQ a w (on w T) ⟨rfl, rfl, rfl⟩ h2⟩
    · obtain ⟨e, a', w', ⟨rfl, hq⟩, harr⟩ := h (on w T) ⟨rfl, rfl, rfl⟩ b [] [shut P]
      obtain ⟨n, hn⟩ : Steps P (lone (b.at a [.code c]) [shut P] (on w T)) (lone { b.at a' [] with mode := .returning } [shut P] w') := Steps.trans harr (.one Go.step_end)
      exact reach_of_runP HB HN rfl (Post := PostC b Q) ⟨a', rfl, hq⟩ n hg hn
  have := A.of_ends_more (Post := Post) (cs := cs) HB k he hg (fun _ h => by cases h) (fun fr w hf hm ht hp => ?_) (fun fr w hf hm ht hp => ?_)
  · exact this
  · obtain ⟨a', h1, h2⟩ := hp
    have e : more k fr = b.at a' k := by
      cases fr
      simp only [Frame.at, Frame.mk.injEq] at h1
      simp only at hm
      obtain ⟨rfl, rfl, rfl, rfl, _, rfl, rfl⟩ := h1
      simp [more, Frame.at, hm]
    rw [e]
    exact kN a' w h2
  · obtain ⟨a', h1, h2⟩ := hp
    exact absurd (by rw [h1]; rfl) ht
/-- What the rest of a function's code ends in. -/
def PostR (b : Frame) (Q : Act → World → Prop) (fr : Frame) (w : World) : Prop := ∃ a todo, fr = { b.at a todo with mode := .returning } ∧ Q a w
/-- The rest of a function's code. -/
theorem A.rest (HB : BodP P FS) (HN : NoEarly P) {b : Frame} {fn : Func} (hb : P.funcs[b.fn]? = some fn) (hbk : b.kind = .normal) {c : Code} (hc : CodeP P FS c) {cs : List Frame} {a : Act} (ha : a.defers = []) {w : World} {Q : Act → World → Prop}
    (hQ : ∀ a w w', Same w w' → Q a w → Q a w') (h : ∀ w', Same w w' → c.wp P (fun e a w => (e = .normal ∨ e = .ret) ∧ Q a w) a w') (kR : ∀ a' w' todo, a'.defers = [] → Q a' w' → A P Post { b.at a' todo with mode := .returning } cs w') : A P Post (b.at a [.code c]) cs w := by
  have hg : GoodP P FS (b.at a [.code c]) [] := ⟨.inl rfl, ⟨⟨fn, hb⟩, fun i hi => by simp [Frame.at] at hi; subst hi; exact hc, ha, hbk, rfl⟩, fun x hx => by simp at hx⟩
  have he : EndsP P (PostR b Q) (b.at a [.code c]) [] w := by
    refine ends_of_reachP HB (fun fr w T hp => ?_) hg fun T => ?_
    · obtain ⟨a, todo, h1, h2⟩ := hp
      exact ⟨a, todo, h1, hQ a w (on w T) ⟨rfl, rfl, rfl⟩ h2⟩
    · obtain ⟨e, a', w', ⟨rfl | rfl, hq⟩, harr⟩ := h (on w T) ⟨rfl, rfl, rfl⟩ b [] [shut P]
      · obtain ⟨n, hn⟩ : Steps P (lone (b.at a [.code c]) [shut P] (on w T)) (lone { b.at a' [] with mode := .returning } [shut P] w') := Steps.trans harr (.one Go.step_end)
        exact reach_of_runP HB HN rfl (Post := PostR b Q) ⟨a', [], rfl, hq⟩ n hg hn
      · obtain ⟨todo, n, hn⟩ := harr
        exact reach_of_runP HB HN rfl (Post := PostR b Q) ⟨a', todo, rfl, hq⟩ n hg hn
  have := A.of_ends (Post := Post) (cs := cs) HB he hg fun fr w hf _ hp => ?_
  · exact this
  · obtain ⟨a', todo, rfl, h2⟩ := hp
    exact kR a' w todo hf.defers h2
end
end Go.Proofs.Ytgeoffpcmkofkaa
/- The end of hull.Of: the corners' numbers. -/
namespace Go.Proofs.Ytgeoffpcmkofkaa
open Go Go.Conc Go.RowKit Fl Go.Maps
set_option maxRecDepth 100000
attribute [local go_sem ↓] Go.wp_at_zero Go.wp_at_succ

noncomputable def c54 : Code := match Try.f54.body with
  | some (.seq _ (.seq _ (.seq _ r))) => r
  | _ => .skip
/-- The numbers of some points. -/
def numsOf (m : Ns) (ws : Pts) : List Value := ws.map fun p => .int .i64 (atN m p)
/-- Where the loop over the corners stands. -/
structure NI (w w1 wr : World) (m : Ns) (ws : Pts) (i : Nat) (xs : List Value) : Prop where
  gr : w1.grownBy wr (some w.heap.size)
  own : wr.ownsRow w.heap.size 3 1 (.slice (some ⟨w.heap.size, 0, none⟩) ws.length ws.length) ws.length xs
  done : xs.take i = (numsOf m ws).take i
theorem PtsAt.heap {w w' : World} {g off : Nat} {l : Pts} (h : PtsAt w g off l) (e : w'.heap[g]? = w.heap[g]?) : PtsAt w' g off l := fun i hi => by
  have := h i hi
  simp only [World.cell?, e] at this ⊢
  exact this
theorem NI.box {w w1 wr : World} {m : Ns} {ws : Pts} {i : Nat} {xs : List Value} (h : NI w w1 wr m ws i xs) (o : Obj) : NI w w1 (wr.alloc o) m ws i xs := ⟨h.gr.trans ((New.alloc wr o).but _), h.own.alloc o, h.done⟩
theorem NI.put {w w1 wr : World} {m : Ns} {ws : Pts} {i : Nat} {xs : List Value} {p : Pt} (h : NI w w1 wr m ws i xs) (hi : ws[i]? = some p) : NI w w1 (wr.setCell ⟨w.heap.size, i, none⟩ (.int .i64 (atN m p))) m ws (i + 1) (xs.set i (.int .i64 (atN m p))) := by
  have hs := World.ownsRow.stored h.own i (.int .i64 (atN m p))
  refine ⟨h.gr.trans hs.2, hs.1, ?_⟩
  have hlt : i < ws.length := (List.getElem?_eq_some_iff.1 hi).1
  have hx : xs.length = ws.length := by have := h.own.1; omega
  have e : (numsOf m ws)[i]? = some (.int .i64 (atN m p)) := by simp [numsOf, hi]
  rw [List.take_add_one, List.take_add_one, e, List.take_set_of_le (Nat.le_refl _), h.done]
  simp [hx, hlt]

set_option maxHeartbeats 1600000 in
theorem rest54 (lv : Value) (g cap b n : Nat) (m : Ns) (ws : Pts) (w : World) (hp : PtsAt w g 0 ws) (hg : g < w.heap.size) (hm : MapI w b n m) (hl : ws.length ≤ 1000000) (hc : ∀ x ∈ ws, CdP x) (h1 h2 h3 h4 : Value) :
    c54.wp Try.prog (fun e a w' => (e = .normal ∨ e = .ret) ∧ ∃ v, a.tmps.getD 2 undef = v ∧ Hid (Kept w w' ∧ w'.ownsRow w.heap.size 3 1 v ws.length (numsOf m ws)))
      { tmps := #[lv, undef, .slice none 0 0, .map (some b), .slice (some ⟨g, 0, none⟩) ws.length cap, undef, undef, undef, h1, h2, h3, h4, .slice (some ⟨g, 0, none⟩) ws.length cap, undef, undef, undef, undef, undef, undef, undef, undef, undef, undef, undef, undef, undef, undef, undef, undef, undef, undef], defers := [] } w := by
  simp only [c54, Try.f54]
  have HP : Hid (PtsAt w g 0 ws ∧ g < w.heap.size ∧ MapI w b n m ∧ ∀ x ∈ ws, CdP x) := ⟨hp, hg, hm, hc⟩
  clear hp hg hm hc
  obtain ⟨i0, hi0, hz0, hz1, hz2⟩ := info_parts Try.info3
  obtain ⟨w1, k1, k2, k3⟩ := run_make_full (P := Try.prog) w w.heap.size 46 3 i0 _ 1 Try.underlying46 hi0 hz0 hz1 .i64 .i64 ws.length (by rw [hz2]; omega) (by unfold maxLen; omega) (Nat.le_refl _)
  have HN : Hid (NI w w1 w1 m ws 0 (madeCells (Value.int .i64 0).cells (ws.length * 1)).toList ∧ w.grownBy w1 none) := ⟨⟨World.grownBy.refl _ _, k2, rfl⟩, k3⟩
  clear k2 k3 hi0 hz0 hz1 hz2
  go_wp2_with fail
  go_loopw [18] (fun i wr => ∃ (k : Nat) (xs : List Value), i = .int .i64 (k : Int) ∧ k ≤ ws.length ∧ Hid (NI w w1 wr m ws k xs)) (fun i _ => ws.length - (intOf i).toNat)
  case atStart => exact ⟨0, _, rfl, Nat.zero_le _, HN.out.1⟩
  case round =>
    obtain ⟨k, xs, rfl, hk, H⟩ := hrel
    have hsz : w1.heap.size ≤ wr.heap.size := H.out.gr.size
    rcases Nat.lt_or_ge k ws.length with hk' | hk'
    · have hb : b < w.heap.size := HP.out.2.2.1.lt
      have hc := (HP.out.1.heap (w' := wr) (by rw [H.out.gr.block g (by have := HN.out.2.size; have := HP.out.2.1; omega) (by have := HP.out.2.1; simp; omega), HN.out.2.block g HP.out.2.1 (by simp)])) k hk'
      rw [Nat.zero_add] at hc
      obtain ⟨p, hp⟩ : ∃ p, p = ws[k] := ⟨_, rfl⟩
      have HC : Hid (CdP p ∧ ws[k]? = some p) := ⟨by rw [hp]; exact HP.out.2.2.2 _ (List.getElem_mem hk'), by rw [hp]; exact List.getElem?_eq_getElem hk'⟩
      rw [← hp] at hc
      obtain ⟨x0, x1⟩ := hc
      clear hp
      have i0 : (0 : Int) ≤ (k : Int) := by omega
      have i1 : (k : Int) < (ws.length : Int) := by omega
      have hw1 : IntKind.i64.wrap ((k : Int) + 1) = (k : Int) + 1 := by rw [IntKind.wrap_i64]; omega
      have HM : Hid (MapI (wr.alloc (.cells #[.int .i64 p.1, .int .i64 p.2] 23)) b n m) := ((HP.out.2.2.1.new HN.out.2).kept H.out.gr (by simp; omega)).new (New.alloc _ _)
      have HB : Hid (NI w w1 (wr.alloc (.cells #[.int .i64 p.1, .int .i64 p.2] 23)) m ws k xs) := H.out.box _
      obtain ⟨xk, hxk⟩ : ∃ xk, xs[k]? = some xk := ⟨_, List.getElem?_eq_getElem (show k < xs.length by have := H.out.own.1; omega)⟩
      have f1 := World.ownsRow.frozenAt HB.out.own k
      have f2 : (wr.alloc (.cells #[.int .i64 p.1, .int .i64 p.2] 23)).cell? ⟨w.heap.size, k, none⟩ = some xk := (World.ownsRow.cellAt HB.out.own k (by omega)).trans hxk
      have HF : Hid (NI w w1 ((wr.alloc (.cells #[.int .i64 p.1, .int .i64 p.2] 23)).setCell ⟨w.heap.size, k, none⟩ (.int .i64 (atN m p))) m ws (k + 1) (xs.set k (.int .i64 (atN m p)))) := HB.out.put HC.out.2
      have y0 : (wr.alloc (.cells #[.int .i64 p.1, .int .i64 p.2] 23)).cell? ⟨wr.heap.size, 0, none⟩ = some (.int .i64 p.1) := by go_simp
      have y1 : (wr.alloc (.cells #[.int .i64 p.1, .int .i64 p.2] 23)).cell? ⟨wr.heap.size, 1, none⟩ = some (.int .i64 p.2) := by go_simp
      clear hxk
      go_wp2_with (first
        | (at_lookup; refine wpList_lookI _ rfl _ _ rfl b n m rfl HM.out p rfl HC.out.1 ?_)
        | go_in)
      go_roundw
      case rel => exact ⟨k + 1, _, by go_num, hk', HF⟩
      case measure => simp [intOf]; omega
    · have e : k = ws.length := by omega
      subst e
      go_wp2_with fail
      refine ⟨⟨H.out.gr.os.trans HN.out.2.os, H.out.gr.output.trans HN.out.2.output, Nat.le_trans HN.out.2.size hsz, fun r hr => by rw [H.out.gr.block r (Nat.lt_of_lt_of_le hr HN.out.2.size) (by simp; omega), HN.out.2.block r hr (by simp)]⟩, ?_⟩
      have e : xs = numsOf m ws := by
        have h1 := H.out.done
        have h2 : xs.length = ws.length := by have := H.out.own.1; omega
        rw [List.take_of_length_le (by omega), List.take_of_length_le (by simp [numsOf])] at h1
        exact h1
      rw [← e]
      exact H.out.own
end Go.Proofs.Ytgeoffpcmkofkaa
