/- The walks of plumbref's 'gap', 'Side', 'Bad'. -/
import Derived.Test.YtgeoffpcmkofkaaWp
namespace Go.Proofs.Ytgeoffpcmkofkaa
open Go.RowKit Fl Dg
set_option maxRecDepth 100000

theorem nu_form {w : World} {n : Value} {x : Int} {L : Nat} (h : Nu w n x L) : ∃ (neg : Bool) (ao : Option Addr) (m c : Nat), n = .agg #[.bool neg, .slice ao m c] := by
  obtain ⟨neg, v, ds, rfl, h1, _⟩ := h.ex
  obtain ⟨ao, m, c, rfl, _⟩ := slice_val h1
  exact ⟨neg, ao, m, c, rfl⟩

/-- A contract's answer, written out. -/
theorem NuRet.open {w : World} {x : Int} {L : Nat} {e : Ending} {w' : World} (h : NuRet w x L e w') : ∃ (neg : Bool) (ao : Option Addr) (m c : Nat), e = .returned (.agg #[.bool neg, .slice ao m c]) ∧ Hid (Nu w' (.agg #[.bool neg, .slice ao m c]) x L ∧ New w w') := by
  obtain ⟨n, rfl, H⟩ := h
  obtain ⟨neg, ao, m, c, rfl⟩ := nu_form H.out.1
  exact ⟨neg, ao, m, c, rfl, H⟩

theorem of_num' (n : Int) (w : World) (h : Cd n) : Calls Try.prog 60 #[.int .i64 n] w fun e w' => ∃ (neg : Bool) (ao : Option Addr) (m c : Nat), e = .returned (.agg #[.bool neg, .slice ao m c]) ∧ Hid (Nu w' (.agg #[.bool neg, .slice ao m c]) n 3 ∧ New w w') :=
  (of_num n w h).mono fun _ _ h => h.open
theorem minus_num' {n : Value} {x : Int} {L : Nat} {w : World} (h : Nu w n x L) : Calls Try.prog 42 #[n] w fun e w' => ∃ (neg : Bool) (ao : Option Addr) (m c : Nat), e = .returned (.agg #[.bool neg, .slice ao m c]) ∧ Hid (Nu w' (.agg #[.bool neg, .slice ao m c]) (-x) L ∧ New w w') :=
  (minus_num n x L w h).mono fun _ _ h => h.open
theorem add_num' {m n : Value} {x y : Int} {L : Nat} {w : World} (h1 : Nu w m x L) (h2 : Nu w n y L) (hL : L ≤ 900) : Calls Try.prog 41 #[m, n] w fun e w' => ∃ (neg : Bool) (ao : Option Addr) (k c : Nat), e = .returned (.agg #[.bool neg, .slice ao k c]) ∧ Hid (Nu w' (.agg #[.bool neg, .slice ao k c]) (x + y) (L + 1) ∧ New w w') :=
  (add_num m n x y L w h1 h2 hL).mono fun _ _ h => h.open
theorem mul_num' {m n : Value} {x y : Int} {L M : Nat} {w : World} (h1 : Nu w m x L) (h2 : Nu w n y M) (hL : L + M ≤ 900) : Calls Try.prog 38 #[m, n] w fun e w' => ∃ (neg : Bool) (ao : Option Addr) (k c : Nat), e = .returned (.agg #[.bool neg, .slice ao k c]) ∧ Hid (Nu w' (.agg #[.bool neg, .slice ao k c]) (x * y) (L + M + 1) ∧ New w w') :=
  (mul_num m n x y L M w h1 h2 hL).mono fun _ _ h => h.open

/-- A number is stored into the block R, where nothing of it lies. -/
theorem nu_stored {w wr : World} (hnw : New w wr) {R : Nat} (h1 : w.heap.size ≤ R) {neg : Bool} {ao : Option Addr} {m c : Nat} {x : Int} {L : Nat} (hd : Nu wr (.agg #[.bool neg, .slice ao m c]) x L) (hR : wr.heap[R]? = some (.cells #[.bool false, .slice none 0 0] 55 (0, 0))) :
    NuRet w x L (.returned (.agg #[.bool neg, .slice ao m c])) ((wr.setCell ⟨R, 0, none⟩ (.bool neg)).setCell ⟨R, 1, none⟩ (.slice ao m c)) := by
  obtain ⟨neg', v, ds, e, h2, h3, h4, h5⟩ := hd.ex
  cases e
  refine num_answer hnw h1 h2 ?_ h3 h4 h5
  intro e
  rcases h2.own.2 with ⟨h6, _⟩ | ⟨g, cap, cur, h6, _, h7, _⟩
  · rw [h6] at e; cases e
  · rw [h6] at e
    simp only [Value.ownBlock, Option.some.injEq] at e
    subst e
    rw [h7] at hR
    simp at hR

set_option maxHeartbeats 800000 in
theorem gap_any (a b : Int) (w : World) (ha : Cd a) (hb : Cd b) :
    Calls Try.prog 39 #[.int .i64 a, .int .i64 b] w fun e w' => NuRet w (a - b) 4 e w' := by
  go_enter Try.func39, Try.ntmps39
  go_wp2_with fail
  refine (of_num' a _ ha).mono ?_
  rintro e w1 ⟨n1, ao1, m1, c1, rfl, H1⟩
  go_wp2_with fail
  refine (of_num' b _ hb).mono ?_
  rintro e w2 ⟨n2, ao2, m2, c2, rfl, H2⟩
  go_wp2_with fail
  refine (minus_num' H2.out.1).mono ?_
  rintro e w3 ⟨n3, ao3, m3, c3, rfl, H3⟩
  go_wp2_with fail
  refine (add_num' ((H1.out.1.kept H2.out.2).kept H3.out.2) H3.out.1 (by omega)).mono ?_
  rintro e w4 ⟨n4, ao4, m4, c4, rfl, H4⟩
  have HN : Hid (New (w.alloc (.cells #[.bool false, .slice none 0 0] 55)) w4) := ((H1.out.2.trans' H2.out.2).trans' H3.out.2).trans' H4.out.2
  have hR : w4.heap[w.heap.size]? = some (.cells #[.bool false, .slice none 0 0] 55 (0, 0)) := by
    rw [HN.out.block _ (by simp) (by simp)]; exact _root_.Go.heap_alloc_new w _
  have qr0 := pair_cell0 hR
  have qr1 := pair_cell1 hR
  have qf0 := pair_free (o := 0) hR
  have qf1 := pair_free (o := 1) hR
  have HR : Hid (w4.heap[w.heap.size]? = some (.cells #[.bool false, .slice none 0 0] 55 (0, 0))) := hR
  clear hR
  go_wp2_with fail
  refine bodyPost_ret (v := .agg #[.bool n4, .slice ao4 m4 c4]) (by simp [results, Try.results39, go_sem, qr0, qr1]) rfl ?_
  have hx : a - b = a + -b := by omega
  rw [hx]
  exact nu_stored ((New.alloc w _).trans' HN.out) (Nat.le_refl _) H4.out.1 HR.out

end Go.Proofs.Ytgeoffpcmkofkaa
