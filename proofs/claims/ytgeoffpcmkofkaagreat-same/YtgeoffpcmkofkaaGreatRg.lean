/- The walk of 'sweep' of package mesh. -/
import Derived.Test.YtgeoffpcmkofkaaGreatRf
import Derived.Test.YtgeoffpcmkofkaaGreatRd
namespace Go.Proofs.YtgeoffpcmkofkaaGreat
open Go.RowKit Go.Maps Fl
set_option maxRecDepth 100000
attribute [local go_sem ↓] Go.wp_at_zero Go.wp_at_succ

theorem pairs_length (s : Pts) : (pairs s).length = s.length * s.length := by
  have key : ∀ t : Pts, (t.flatMap fun u => s.map fun v => (u, v)).length = t.length * s.length := by
    intro t
    induction t with
    | nil => simp
    | cons a t ih => rw [List.flatMap_cons, List.length_append, ih, List.length_map, List.length_cons, Nat.add_mul]; omega
  exact key s
theorem mesh_next {s : Pts} {n k : Nat} {L : List Ed} (h : Begun s n) (hk : n + 1 + k < s.length) (hL : SeenIs (meshK s n k) (ptAt s (n + 1 + k)) L) : addAll (meshK s n k) L (ptAt s (n + 1 + k)) = meshK s n (k + 1) := by
  have hok := (h.meshK k (by omega)).1
  have hp : ptAt s (n + 1 + k) ∉ s.take (n + 1 + k) := by
    intro hx
    obtain ⟨i, hi⟩ := List.mem_iff_getElem?.1 hx
    have hil : i < n + 1 + k := by have := (List.getElem?_eq_some_iff.1 hi).1; simp at this; omega
    rw [List.getElem?_take_of_lt hil] at hi
    have := h.rising i (n + 1 + k) _ _ hi (ptAt_get hk) hil
    omega
  have hL' := seenL_is (p := ptAt s (n + 1 + k)) h.rising.nodup hok (fun x hx => List.mem_of_mem_take hx)
  exact addAll_same (seen_joins hok hp hL) (seen_joins hok hp hL') fun e => by rw [hL.iff, hL'.iff]
theorem addAll_snoc (m : Ms) (L : List Ed) (e : Ed) (p : Pt) : addAll m (L ++ [e]) p = addM (addAll m L p) e.2 e.1 p := by simp [addAll]
theorem OwnE.form {w : World} {base : Nat} {v : Value} {l : List Ed} (h : OwnE w base v l) : (v = .slice none 0 0 ∧ l = []) ∨ ∃ g cap, v = .slice (some ⟨g, 0, none⟩) l.length cap ∧ base ≤ g ∧ g < w.heap.size ∧ l.length ≤ cap ∧ cap ≤ maxLen := by
  rcases h.2 with ⟨e, hn⟩ | ⟨g, cap, cur, e, hb, hg, h1, h2, _⟩
  · exact .inl ⟨e, List.eq_nil_of_length_eq_zero hn⟩
  · exact .inr ⟨g, cap, e, hb, (Array.getElem?_eq_some_iff.1 hg).1, h1, h2⟩
theorem flatE_get (l : List Ed) (i : Nat) (h : i < l.length) : (l.flatMap encE)[i * 4]? = some (.int .i64 l[i].1.1) ∧ (l.flatMap encE)[i * 4 + 1]? = some (.int .i64 l[i].1.2) ∧ (l.flatMap encE)[i * 4 + 2]? = some (.int .i64 l[i].2.1) ∧ (l.flatMap encE)[i * 4 + 3]? = some (.int .i64 l[i].2.2) := by
  induction l generalizing i with
  | nil => simp at h
  | cons a l ih =>
    cases i with
    | zero => exact ⟨rfl, rfl, rfl, rfl⟩
    | succ i =>
      have := ih i (by simpa using h)
      have e1 : (i + 1) * 4 = i * 4 + 1 + 1 + 1 + 1 := by omega
      rw [e1]
      simpa [encE] using this
theorem OwnE.cell {w : World} {base g cap : Nat} {l : List Ed} (h : OwnE w base (.slice (some ⟨g, 0, none⟩) l.length cap) l) {i : Nat} (hi : i < l.length) :
    w.cell? ⟨g, i * 4, none⟩ = some (.int .i64 l[i].1.1) ∧ w.cell? ⟨g, i * 4 + 1, none⟩ = some (.int .i64 l[i].1.2) ∧ w.cell? ⟨g, i * 4 + 2, none⟩ = some (.int .i64 l[i].2.1) ∧ w.cell? ⟨g, i * 4 + 3, none⟩ = some (.int .i64 l[i].2.2) := by
  have f := flatE_get l i hi
  exact ⟨(World.ownsRow.cellAt h _ (by omega)).trans f.1, (World.ownsRow.cellAt h _ (by omega)).trans f.2.1, (World.ownsRow.cellAt h _ (by omega)).trans f.2.2.1, (World.ownsRow.cellAt h _ (by omega)).trans f.2.2.2⟩

/-- Where the sweep stands: k points behind the line and its first neighbour are joined. -/
structure SW (w wr : World) (base g cap : Nat) (s : Pts) (n k : Nat) : Prop where
  new : New w wr
  own : OwnP wr base (.slice (some ⟨g, 0, none⟩) s.length cap) s
  map : MapE wr w.heap.size (200 + 4000000 * k) (meshK s n k)
theorem SW.next {w wr wx : World} {base g cap : Nat} {s : Pts} {n k : Nat} (h : SW w wr base g cap s n k) (hg : New wr wx) : SW w wx base g cap s n k := ⟨h.new.trans' hg, h.own.new hg, h.map.new hg⟩

/-- Within a point: i of the sides that it sees are joined to it. -/
structure IN (w wr : World) (base g cap : Nat) (s : Pts) (c bq : Nat) (m : Ms) (q : Pt) (B : Nat) (v : Value) (L : List Ed) (i : Nat) : Prop where
  new : New w wr
  own : OwnP wr base (.slice (some ⟨g, 0, none⟩) s.length cap) s
  map : MapE wr w.heap.size (c + 3 * i) (addAll m (L.take i) q)
  box : BoxP wr bq q
  row : OwnE wr B v L
theorem IN.next {w wr wx : World} {base g cap : Nat} {s : Pts} {c bq : Nat} {m : Ms} {q : Pt} {B : Nat} {v : Value} {L : List Ed} {i : Nat} (h : IN w wr base g cap s c bq m q B v L i) (hi : i < L.length) (h1 : MapE wx w.heap.size (c + 3 * i + 3) (addM (addAll m (L.take i) q) L[i].2 L[i].1 q)) (hg : wr.grownBy wx (some w.heap.size)) (hgw : g < w.heap.size) (hbq : w.heap.size < bq) (hB : w.heap.size < B) : IN w wx base g cap s c bq m q B v L (i + 1) := by
  refine ⟨h.new.own hg (Nat.le_refl _), World.ownsRow.kept h.own hg (.inr (by simp [Value.ownBlock]; omega)), ?_, h.box.grown hg (by simp; omega), h.row.kept hg hB⟩
  have e : L.take (i + 1) = L.take i ++ [L[i]] := by rw [List.take_add_one, List.getElem?_eq_getElem hi]; rfl
  rw [e, addAll_snoc]
  exact h1

set_option maxHeartbeats 3200000 in
theorem sweep_some (base g cap N : Nat) (s : Pts) (w : World) (HN : Hid (s.length = N)) (h : OwnP w base (.slice (some ⟨g, 0, none⟩) s.length cap) s) (hg : g < w.heap.size) (hr : Rising s) (hc : ∀ x ∈ s, CdP x) (h40 : N ≤ 40) (hcap : N ≤ cap) :
    Calls Tryz.prog 26 #[.slice (some ⟨g, 0, none⟩) N cap] w fun e w' => ∃ b, e = .returned (.map (some b)) ∧ Hid (New w w' ∧ w.heap.size ≤ b ∧ MapE w' b 1000000000 (meshOf s)) := by
  have H : Hid (OwnP w base (.slice (some ⟨g, 0, none⟩) s.length cap) s ∧ g < w.heap.size ∧ Rising s ∧ ∀ x ∈ s, CdP x) := ⟨h, hg, hr, hc⟩
  have hmm := @run_makeMap Tryz.prog 51 w
  clear h hg hr hc
  go_enter Tryz.func26, Tryz.ntmps26
  go_wp2_with fail
  refine (inLine_gen base g cap N s _ HN (H.out.1.new (New.alloc _ _)) (by omega) H.out.2.2.2).mono ?_
  rintro e w1 ⟨n, rfl, H1⟩
  have HL : Hid (LineIs s n ∧ New (w.alloc (.map #[] 0)) w1) := by
    refine ⟨⟨H1.out.2.1.ge, H1.out.2.1.le, H1.out.2.1.line, fun k => H1.out.2.2 (by have := HN.out; omega)⟩, H1.out.1⟩
  have hnN : n ≤ N := by have := HL.out.1.le; have := HN.out; omega
  clear H1
  by_cases hn : n = N
  · have HM : Hid (meshOf s = fun _ => none) := by
      rcases meshOf_ok HL.out.1 H.out.2.2.1 with k | k
      · exact k.2
      · exfalso; have := HN.out; omega
    subst hn
    go_wp2_with fail
    go_ret
    exact ⟨_, rfl, (New.alloc _ _).trans' HL.out.2, Nat.le_refl _, by rw [HM.out]; exact ((mapE_made w).new HL.out.2).mono (by omega)⟩
  · have HB : Hid (Begun s n ∧ meshOf s = meshK s n (N - n - 1)) := by
      have hN := HN.out
      rcases meshOf_ok HL.out.1 H.out.2.2.1 with k | k
      · exfalso; omega
      · exact ⟨HL.out.1.begun H.out.2.2.1 k.1, by rw [k.2.1, hN]⟩
    have hn2 : 2 ≤ n := HB.out.1.two
    have hnl : n < N := by omega
    have HO : Hid (OwnP w1 base (.slice (some ⟨g, 0, none⟩) s.length cap) s) := H.out.1.new ((New.alloc _ _).trans' HL.out.2)
    obtain ⟨x0, x1⟩ := HO.out.cell (show n < s.length by have := HN.out; omega)
    rw [← ptAt_eq] at x0 x1
    obtain ⟨p, hp⟩ : ∃ p, p = ptAt s n := ⟨_, rfl⟩
    rw [← hp] at x0 x1
    have HP : Hid (p = ptAt s n) := hp
    clear hp
    have i0 : (0 : Int) ≤ (n : Int) := by omega
    have i1 : (n : Int) < (N : Int) := by omega
    have i2 : (n : Int) ≤ (N : Int) := by omega
    have i3 : (n : Int) ≤ (cap : Int) := by omega
    have i4 : (N : Int) ≤ (cap : Int) := by omega
    have i5 : n ≤ cap := by omega
    have hw1 : IntKind.i64.wrap ((n : Int) + 1) = (n : Int) + 1 := by rw [IntKind.wrap_i64]; omega
    have HJ : Hid (∀ W, New w1 W → Calls Tryz.prog 37 #[.map (some w.heap.size), .slice (some ⟨g, 0, none⟩) n cap, .agg #[.int .i64 p.1, .int .i64 p.2]] W fun e w' => e = .returned (.tuple #[]) ∧ Hid (MapE w' w.heap.size (0 + 3 * (n - 1)) (joinN (s.take n) p (fun _ => none) (n - 1)) ∧ W.grownBy w' (some w.heap.size))) := by
      intro W hW
      have hN := HN.out
      have hg := H.out.2.1
      have hsz : w.heap.size < w1.heap.size := by have := HL.out.2.size; simp at this; omega
      refine joinLine_any w.heap.size 0 g cap n (s.take n) p (fun _ => none) W ?_ (((mapE_made w).new HL.out.2).new hW) (by unfold maxLen; omega) ?_ (Nat.lt_of_lt_of_le (by omega) hW.size) (by omega) (by omega) hn2 (by omega) ?_ ?_
      · show (s.take n).length = n
        simp; omega
      · intro i hi
        have hin : i < n := by simp at hi; omega
        have := (HO.out.new hW).cell (show i < s.length by omega)
        rw [Nat.zero_add, List.getElem_take]
        exact this
      · exact fun x hx => H.out.2.2.2 x (List.mem_of_mem_take hx)
      · rw [HP.out]; exact H.out.2.2.2 _ (ptAt_mem (by omega))
    go_wp2_with fail
    go_region_held3 (fun V => V.cell? ⟨g, n * 2, none⟩ = some (.int .i64 p.1) ∧ V.cell? ⟨g, n * 2 + 1, none⟩ = some (.int .i64 p.2))
      (first | exact ⟨z0, z1⟩ | go_keep)
      (first | (go_at_call 37; refine (HJ.out _ (New.refl w1).dr).mono ?_
                rintro e w2 ⟨rfl, H2⟩
                have z0 : w2.cell? ⟨g, n * 2, none⟩ = some (.int .i64 p.1) := grown_cell H2.out.2 (by have := H.out.2.1; simp; omega) x0
                have z1 : w2.cell? ⟨g, n * 2 + 1, none⟩ = some (.int .i64 p.2) := grown_cell H2.out.2 (by have := H.out.2.1; simp; omega) x1))
    have HS : Hid (SW w w2 base g cap s n 0) := by
      have hg := H.out.2.1
      refine ⟨(((New.alloc _ _).trans' HL.out.2).dr).own H2.out.2 (Nat.le_refl _), ?_, ?_⟩
      · exact World.ownsRow.kept (HO.out.new (New.refl w1).dr) H2.out.2 (.inr (by simp [Value.ownBlock]; omega))
      · have := H2.out.1.mono (n' := 200 + 4000000 * 0) (by omega)
        rw [HP.out] at this
        exact this
    clear HJ HO HL H2 x0 x1 z0 z1 HP i0
    have i6 : n + 1 ≤ N := by omega
    have i7 : (n : Int) + 1 ≤ (N : Int) := by omega
    have i8 : (0 : Int) ≤ (n : Int) + 1 := by omega
    have i9 : (n : Int) + 1 ≤ (cap : Int) := by omega
    have i10 : n + 1 ≤ cap := by omega
    by_cases hcn : cap = n + 1
    · have HZ : Hid (N - n - 1 = 0) := by rw [Hid]; omega
      have e1 : N = n + 1 := by omega
      subst e1
      subst hcn
      go_wp2_with fail
      go_loopw [31] (fun v wr => v = .int .i64 0 ∧ Hid (SW w wr base g (n + 1) s n 0)) (fun _ _ => 0)
      case atStart => exact ⟨rfl, HS⟩
      case round =>
        obtain ⟨rfl, HR⟩ := hrel
        go_wp2_with fail
        go_ret
        exact ⟨_, rfl, HR.out.new, Nat.le_refl _, by rw [HB.out.2, HZ.out]; exact HR.out.map.mono (by omega)⟩
    · go_wp2_with fail
      go_loopw [31] (fun v wr => ∃ k : Nat, v = .int .i64 (k : Int) ∧ k ≤ N - (n + 1) ∧ Hid (SW w wr base g cap s n k)) (fun v _ => N - (n + 1) - (intOf v).toNat)
      case atStart => exact ⟨0, rfl, Nat.zero_le _, HS⟩
      case round =>
        obtain ⟨k, rfl, hk, HR⟩ := hrel
        rcases Nat.lt_or_ge k (N - (n + 1)) with hk' | hk'
        · obtain ⟨x0, x1⟩ := HR.out.own.cell (show n + 1 + k < s.length by have := HN.out; omega)
          rw [← ptAt_eq] at x0 x1
          obtain ⟨q, hq⟩ : ∃ q, q = ptAt s (n + 1 + k) := ⟨_, rfl⟩
          rw [← hq] at x0 x1
          rw [Nat.add_mul] at x0 x1
          have HQ : Hid (q = ptAt s (n + 1 + k) ∧ CdP q) := ⟨hq, by rw [hq]; exact H.out.2.2.2 _ (ptAt_mem (by have := HN.out; omega))⟩
          clear hq
          have j0 : (0 : Int) ≤ (k : Int) := by omega
          have j1 : (k : Int) < ((N - (n + 1) : Nat) : Int) := by omega
          have hw2 : IntKind.i64.wrap ((k : Int) + 1) = (k : Int) + 1 := by rw [IntKind.wrap_i64]; omega
          have HOK : Hid (Ok (s.take (n + 1 + k)) (meshK s n k)) := (HB.out.1.meshK k (by have := HN.out; omega)).1
          have HPS : Hid (∀ e, (meshK s n k e).isSome = true → e ∈ pairs s) := fun e he => by
            obtain ⟨c, hc⟩ := isSome_get he
            have := HOK.out.mem e.1 e.2 c hc
            exact mem_pairs.2 ⟨List.mem_of_mem_take this.1, List.mem_of_mem_take this.2.1⟩
          have HPL : Hid ((pairs s).length ≤ 1600) := by
            rw [Hid, pairs_length]
            exact Nat.le_trans (Nat.mul_le_mul (show s.length ≤ 40 by have := HN.out; omega) (show s.length ≤ 40 by have := HN.out; omega)) (by omega)
          go_wp2_with fail
          refine (seenFrom_any w.heap.size _ (meshK s n k) q _ (pairs s) (HR.out.map.new (New.alloc _ _)) HQ.out.2 HPS.out (by have := HPL.out; omega)).mono ?_
          rintro e w3 ⟨v3, L, rfl, H3⟩
          have HW3 : Hid (SW w w3 base g cap s n k ∧ BoxP w3 wr.heap.size q) := ⟨HR.out.next ((New.alloc _ _).trans' H3.out.1), (BoxP.mk (by go_simp) (by go_simp) : BoxP _ _ q).new H3.out.1⟩
          have HNX : Hid (addAll (meshK s n k) L q = meshK s n (k + 1)) := by
            have := mesh_next (L := L) HB.out.1 (show n + 1 + k < s.length by have := HN.out; omega) (by rw [← HQ.out.1]; exact H3.out.2.1)
            rw [← HQ.out.1] at this
            exact this
          have HLL : Hid (L.length ≤ 1600) := by
            refine Nat.le_trans (length_le_of_sub (l₂ := pairs s) H3.out.2.1.nd fun e he => ?_) HPL.out
            exact HPS.out e ((H3.out.2.1.iff e).1 he).1.1
          have hwr : w.heap.size < wr.heap.size := HR.out.map.lt
          rcases H3.out.2.2.form with ⟨e1, e2⟩ | ⟨g3, c3, e1, hb3, hg3, hlc, hcm3⟩
          · subst e1 e2
            go_wp2_with fail
            go_loopw [39] (fun v wx => v = .int .i64 0 ∧ Hid (SW w wx base g cap s n k)) (fun _ _ => 0)
            case atStart => exact ⟨rfl, HW3.out.1⟩
            case round =>
              obtain ⟨rfl, HT⟩ := hrel
              go_wp2_with fail
              go_roundw
              case rel =>
                refine ⟨k + 1, by go_num, by omega, HT.out.new, HT.out.own, ?_⟩
                rw [← HNX.out]
                exact HT.out.map.mono (by omega)
              case measure => simp [intOf]; omega
          · subst e1
            have HIN : Hid (IN w w3 base g cap s (200 + 4000000 * k) wr.heap.size (meshK s n k) q (wr.heap.size + 1) (.slice (some ⟨g3, 0, none⟩) L.length c3) L 0 ∧ (∀ e ∈ L, CdE e)) := by
              refine ⟨⟨HW3.out.1.new, HW3.out.1.own, HW3.out.1.map, HW3.out.2, ?_⟩, fun e he => ?_⟩
              · have := H3.out.2.2
                simpa using this
              · exact HW3.out.1.map.sup (isSome_get ((H3.out.2.1.iff e).1 he).1.1).choose_spec
            clear H3 HW3 x0 x1
            generalize wr = ws at *
            generalize hLn : L.length = M at *
            have HLM : Hid (L.length = M) := hLn
            clear hLn
            go_wp2_with fail
            go_loopw [39] (fun v wx => ∃ i : Nat, v = .int .i64 (i : Int) ∧ i ≤ M ∧ Hid (IN w wx base g cap s (200 + 4000000 * k) ws.heap.size (meshK s n k) q (ws.heap.size + 1) (.slice (some ⟨g3, 0, none⟩) M c3) L i)) (fun v _ => M - (intOf v).toNat)
            case atStart => exact ⟨0, rfl, Nat.zero_le _, HIN.out.1⟩
            case round =>
              obtain ⟨i, rfl, hi, HT⟩ := hrel
              rcases Nat.lt_or_ge i M with hi' | hi'
              · have hiL : i < L.length := by have := HLM.out; omega
                have hrow := HT.out.row
                rw [← HLM.out] at hrow
                obtain ⟨y0, y1, y2, y3⟩ := hrow.cell hiL
                obtain ⟨e, he⟩ : ∃ e, e = L[i] := ⟨_, rfl⟩
                rw [← he] at y0 y1 y2 y3
                have HEE : Hid (e = L[i] ∧ CdE e ∧ i < L.length) := ⟨he, by rw [he]; exact HIN.out.2 _ (List.getElem_mem hiL), hiL⟩
                obtain ⟨z0, z1⟩ := HT.out.box
                have l1 : ws.heap.size < wr.heap.size := World.block_lt_of_cell? wr _ z0
                have l2 : g3 < wr.heap.size := World.block_lt_of_cell? wr _ y0
                clear he hrow
                have m0 : (0 : Int) ≤ (i : Int) := by omega
                have m1 : (i : Int) < (M : Int) := by omega
                have hw3 : IntKind.i64.wrap ((i : Int) + 1) = (i : Int) + 1 := by rw [IntKind.wrap_i64]; have := HLL.out; omega
                go_wp2_with fail
                refine (add_any w.heap.size (200 + 4000000 * k + 3 * i) _ e.2 e.1 q _ (HT.out.map.new (New.alloc _ _)) (by unfold maxLen; have := HLL.out; omega) HEE.out.2.1.2 HEE.out.2.1.1 HQ.out.2).mono ?_
                rintro x w5 ⟨rfl, A5⟩
                have H5 : Hid (IN w w5 base g cap s (200 + 4000000 * k) ws.heap.size (meshK s n k) q (ws.heap.size + 1) (.slice (some ⟨g3, 0, none⟩) M c3) L (i + 1)) := by
                  have a1 := A5.out.1
                  rw [HEE.out.1] at a1
                  exact HT.out.next HEE.out.2.2 a1 (((New.alloc _ _).but _).trans A5.out.2) H.out.2.1 hwr (by omega)
                clear A5 y0 y1 y2 y3 z0 z1
                go_wp2_with fail
                go_roundw
                case rel => exact ⟨i + 1, by go_num, hi', H5⟩
                case measure => simp [intOf]; omega
              · have HZ : Hid (L.take i = L) := by
                  have := HLM.out
                  exact List.take_of_length_le (by omega)
                go_wp2_with fail
                go_roundw
                case rel =>
                  refine ⟨k + 1, by go_num, by omega, HT.out.new, HT.out.own, ?_⟩
                  have a1 := HT.out.map
                  rw [HZ.out, HNX.out] at a1
                  exact a1.mono (by have := HLL.out; omega)
                case measure => simp [intOf]; omega
        · have e : N - n - 1 = k := by omega
          have HZ : Hid (N - n - 1 = k) := e
          go_wp2_with fail
          go_ret
          exact ⟨_, rfl, HR.out.new, Nat.le_refl _, by rw [HB.out.2, HZ.out]; exact HR.out.map.mono (by omega)⟩

end Go.Proofs.YtgeoffpcmkofkaaGreat
