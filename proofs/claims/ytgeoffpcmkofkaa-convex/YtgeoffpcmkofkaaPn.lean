/- The walk of 'FirstNumbers' of package order. -/
import Derived.Test.YtgeoffpcmkofkaaPm
import Derived.Test.YtgeoffpcmkofkaaQd
namespace Go.Proofs.Ytgeoffpcmkofkaa
open Go.RowKit Go.Maps Fl
set_option maxRecDepth 100000
attribute [local go_sem ↓] Go.wp_at_zero Go.wp_at_succ

/-- The numbers of the first k points. -/
def numN (l : Pts) : Nat → Ns
  | 0 => fun _ => none
  | k + 1 => match l[k]? with
    | none => numN l k
    | some p => if (numN l k p).isSome then numN l k else setN (numN l k) p k

section
variable (w : World) {ops : Array Oper} {rest : List Oper} {o : Oper} {a : Act} {Q : Exit → Act → World → Prop}
theorem wpList_lookI_some (hg : o.guard = none) (x y : Operand) (hop : o.op = Op.lookup 79 x y true) (b n : Nat) (m : Ns) (hm : a.eval x = .map (some b)) (h : MapI w b n m) (e : Pt) (hy : a.eval y = ptV e) {c : Int} (hc : m e = some c)
    (hK : wpList Try.prog ops Q rest (a.put o.dst (.tuple #[.int .i64 c, .bool true])) w) : wpList Try.prog ops Q (o :: rest) a w :=
  wpList_lookI_ok w hg x y hop b n m hm h e hy (h.sup hc) (by rw [hc, show atN m e = c by simp [atN, hc]]; exact hK)
theorem wpList_lookI_none (hg : o.guard = none) (x y : Operand) (hop : o.op = Op.lookup 79 x y true) (b n : Nat) (m : Ns) (hm : a.eval x = .map (some b)) (h : MapI w b n m) (e : Pt) (hy : a.eval y = ptV e) (he : CdP e) (hc : m e = none)
    (hK : wpList Try.prog ops Q rest (a.put o.dst (.tuple #[.int .i64 0, .bool false])) w) : wpList Try.prog ops Q (o :: rest) a w :=
  wpList_lookI_ok w hg x y hop b n m hm h e hy he (by rw [hc, show atN m e = 0 by simp [atN, hc]]; exact hK)
end

theorem make79 (n : Int) (w : World) : (Instr.makeMap 79 (some (.int .i64 n))).run Try.prog w = .ok (.map (some w.heap.size)) (w.alloc (.map #[] 0)) := by
  simp [Instr.makeMap, run_underlying Try.underlying79, asInt, asIntOf, Result.andThen]

/-- Where the loop stands. -/
structure FN (w wr : World) (b : Nat) (l : Pts) (k : Nat) : Prop where
  new : New w wr
  map : MapI wr b k (numN l k)

set_option maxHeartbeats 1600000 in
theorem first_some (g cap : Nat) (l : Pts) (w : World) (hp : PtsAt w g 0 l) (hg : g < w.heap.size) (hl : l.length ≤ 1000000) (hc : ∀ x ∈ l, CdP x) :
    Calls Try.prog 69 #[.slice (some ⟨g, 0, none⟩) l.length cap] w fun e w' => ∃ b, e = .returned (.map (some b)) ∧ Hid (New w w' ∧ w.heap.size ≤ b ∧ MapI w' b l.length (numN l l.length)) := by
  have HP : Hid (PtsAt w g 0 l ∧ g < w.heap.size ∧ ∀ x ∈ l, CdP x) := ⟨hp, hg, hc⟩
  have hmm := make79 (l.length : Int) w
  clear hp hg hc
  go_enter Try.func69, Try.ntmps69
  go_wp2_with fail
  go_loopw [13] (fun i wr => ∃ k : Nat, i = .int .i64 (k : Int) ∧ k ≤ l.length ∧ Hid (FN w wr w.heap.size l k)) (fun i _ => l.length - (intOf i).toNat)
  case atStart => exact ⟨0, rfl, Nat.zero_le _, (New.refl w).alloc' _, mapI_made w⟩
  case round =>
    obtain ⟨k, rfl, hk, H⟩ := hrel
    rcases Nat.lt_or_ge k l.length with hk' | hk'
    · have hc := HP.out.1.kept HP.out.2.1 H.out.new k hk'
      rw [Nat.zero_add] at hc
      obtain ⟨p, hp⟩ : ∃ p, p = l[k] := ⟨_, rfl⟩
      have HC : Hid (CdP p ∧ l[k]? = some p) := ⟨by rw [hp]; exact HP.out.2.2 _ (List.getElem_mem hk'), by rw [hp]; exact List.getElem?_eq_getElem hk'⟩
      rw [← hp] at hc
      obtain ⟨x0, x1⟩ := hc
      clear hp
      have i0 : (0 : Int) ≤ (k : Int) := by omega
      have i1 : (k : Int) < (l.length : Int) := by omega
      have hw1 : IntKind.i64.wrap ((k : Int) + 1) = (k : Int) + 1 := by rw [IntKind.wrap_i64]; omega
      cases hn : numN l k p with
      | some c =>
        have HN : Hid (numN l (k + 1) = numN l k) := by rw [Hid]; simp only [numN, HC.out.2]; rw [if_pos (by rw [hn]; rfl)]
        go_wp2_with (first
          | (at_lookup; refine wpList_lookI_some _ rfl _ _ rfl w.heap.size k _ rfl (H.out.map.new (New.alloc _ _)) p rfl hn ?_)
          | go_in)
        go_roundw
        case rel => exact ⟨k + 1, by go_num, hk', H.out.new.alloc' _, by rw [HN.out]; exact (H.out.map.new (New.alloc _ _)).mono (by omega)⟩
        case measure => simp [intOf]; omega
      | none =>
        have HN : Hid (numN l (k + 1) = setN (numN l k) p k) := by rw [Hid]; simp only [numN, HC.out.2]; rw [if_neg (by rw [hn]; simp)]
        go_wp2_with (first
          | (at_lookup; refine wpList_lookI_none _ rfl _ _ rfl w.heap.size k _ rfl (H.out.map.new (New.alloc _ _)) p rfl HC.out.1 hn ?_)
          | (at_mapUpdate; refine wpList_storeI _ rfl _ _ _ rfl w.heap.size k _ rfl (H.out.map.new (New.alloc _ _)) (by unfold maxLen; omega) p (k : Int) rfl rfl HC.out.1 ?_
             intro w3 h3 t3
             have H3 : Hid (FN w w3 w.heap.size l (k + 1)) := ⟨(H.out.new.alloc' _).own t3.grown (Nat.le_refl _), by rw [HN.out]; exact h3⟩
             clear h3 t3)
          | go_in)
        go_roundw
        case rel => exact ⟨k + 1, by go_num, hk', H3⟩
        case measure => simp [intOf]; omega
    · have e : k = l.length := by omega
      subst e
      go_wp2_with fail
      go_ret
      exact ⟨_, rfl, H.out.new, Nat.le_refl _, H.out.map⟩

set_option maxHeartbeats 800000 in
theorem first_nil (w : World) : Calls Try.prog 69 #[.slice none 0 0] w fun e w' => ∃ b, e = .returned (.map (some b)) ∧ Hid (New w w' ∧ w.heap.size ≤ b ∧ MapI w' b 0 (fun _ => none)) := by
  have hmm := make79 0 w
  go_enter Try.func69, Try.ntmps69
  go_wp2_with fail
  go_loop [13] (fun i => i = .int .i64 0) (fun _ => 0)
  case atStart => rfl
  case round =>
    subst hrel
    go_wp2_with fail
    go_ret
    exact ⟨_, rfl, (New.refl w).alloc' _, Nat.le_refl _, mapI_made w⟩

end Go.Proofs.Ytgeoffpcmkofkaa
