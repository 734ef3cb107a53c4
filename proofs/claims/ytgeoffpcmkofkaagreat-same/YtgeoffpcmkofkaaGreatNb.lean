/- The walks of package mesh: 'isWrong'. -/
import Derived.Test.YtgeoffpcmkofkaaGreatNa
import Derived.Test.YtgeoffpcmkofkaaGreatTb
import Derived.Test.YtgeoffpcmkofkaaGreatWz
namespace Go.Proofs.YtgeoffpcmkofkaaGreat
open Go.RowKit Go.Maps Fl
set_option maxRecDepth 100000
attribute [local go_sem ↓] Go.wp_at_zero Go.wp_at_succ

section
variable (w : World) {ops : Array Oper} {rest : List Oper} {o : Oper} {a : Act} {Q : Exit → Act → World → Prop}
theorem wpList_lookE_some (hg : o.guard = none) (x y : Operand) (hop : o.op = Op.lookup 51 x y true) (b n : Nat) (m : Ms) (hm : a.eval x = .map (some b)) (h : MapE w b n m) (e : Ed) (hy : a.eval y = edV e) {c : Pt} (hc : m e = some c)
    (hK : wpList Tryz.prog ops Q rest (a.put o.dst (.tuple #[.agg #[.int .i64 c.1, .int .i64 c.2], .bool true])) w) : wpList Tryz.prog ops Q (o :: rest) a w :=
  wpList_lookE_ok w hg x y hop b n m hm h e hy (h.sup hc) (by rw [hc, show atM m e = c by simp [atM, hc]]; exact hK)
theorem wpList_lookE_none (hg : o.guard = none) (x y : Operand) (hop : o.op = Op.lookup 51 x y true) (b n : Nat) (m : Ms) (hm : a.eval x = .map (some b)) (h : MapE w b n m) (e : Ed) (hy : a.eval y = edV e) (he : CdE e) (hc : m e = none)
    (hK : wpList Tryz.prog ops Q rest (a.put o.dst (.tuple #[.agg #[.int .i64 0, .int .i64 0], .bool false])) w) : wpList Tryz.prog ops Q (o :: rest) a w :=
  wpList_lookE_ok w hg x y hop b n m hm h e hy he (by rw [hc, show atM m e = (0, 0) by simp [atM, hc]]; exact hK)
end

theorem New.dr {w w1 : World} (h : New w w1) : New w w1.drew := ⟨h.os, h.tape, h.output, h.size, h.block⟩

/-- Its corners are points that may be. -/
def Vals (m : Ms) : Prop := ∀ e c, m e = some c → CdP c

/-- A box with a point, a box with a side. -/
structure BoxP (w : World) (k : Nat) (p : Pt) : Prop where
  c0 : w.cell? ⟨k, 0, none⟩ = some (.int .i64 p.1)
  c1 : w.cell? ⟨k, 1, none⟩ = some (.int .i64 p.2)
structure BoxE (w : World) (k : Nat) (e : Ed) : Prop where
  c0 : w.cell? ⟨k, 0, none⟩ = some (.int .i64 e.1.1)
  c1 : w.cell? ⟨k, 1, none⟩ = some (.int .i64 e.1.2)
  c2 : w.cell? ⟨k, 2, none⟩ = some (.int .i64 e.2.1)
  c3 : w.cell? ⟨k, 3, none⟩ = some (.int .i64 e.2.2)
theorem BoxP.new {w w' : World} {k : Nat} {p : Pt} (h : BoxP w k p) (H : New w w') : BoxP w' k p := ⟨H.kept h.c0, H.kept h.c1⟩
theorem BoxE.new {w w' : World} {k : Nat} {e : Ed} (h : BoxE w k e) (H : New w w') : BoxE w' k e := ⟨H.kept h.c0, H.kept h.c1, H.kept h.c2, H.kept h.c3⟩
theorem BoxP.turned {w w' : World} {b k : Nat} {p : Pt} (h : BoxP w k p) (t : w.mapTurned w' b) (hb : k ≠ b) : BoxP w' k p := ⟨(turned_cell t hb).trans h.c0, (turned_cell t hb).trans h.c1⟩
theorem BoxE.turned {w w' : World} {b k : Nat} {e : Ed} (h : BoxE w k e) (t : w.mapTurned w' b) (hb : k ≠ b) : BoxE w' k e := ⟨(turned_cell t hb).trans h.c0, (turned_cell t hb).trans h.c1, (turned_cell t hb).trans h.c2, (turned_cell t hb).trans h.c3⟩
theorem grown_cell {w w' : World} {row : Option Nat} {k off : Nat} {v : Value} (H : w.grownBy w' row) (hk : some k ≠ row) (h : w.cell? ⟨k, off, none⟩ = some v) : w'.cell? ⟨k, off, none⟩ = some v :=
  (World.cell?_of_block (a := ⟨k, off, none⟩) (H.block k (World.block_lt_of_cell? w _ h) (by exact hk))).trans h
theorem BoxP.grown {w w' : World} {row : Option Nat} {k : Nat} {p : Pt} (h : BoxP w k p) (H : w.grownBy w' row) (hk : some k ≠ row) : BoxP w' k p := ⟨grown_cell H hk h.c0, grown_cell H hk h.c1⟩
theorem BoxE.grown {w w' : World} {row : Option Nat} {k : Nat} {e : Ed} (h : BoxE w k e) (H : w.grownBy w' row) (hk : some k ≠ row) : BoxE w' k e := ⟨grown_cell H hk h.c0, grown_cell H hk h.c1, grown_cell H hk h.c2, grown_cell H hk h.c3⟩

set_option maxHeartbeats 1600000 in
theorem isWrong_both (b n : Nat) (m : Ms) (u v l r : Pt) (w : World) (h : MapE w b n m) (hl : m (u, v) = some l) (hr : m (v, u) = some r) (hv : Vals m) :
    Calls Tryz.prog 47 #[.map (some b), .agg #[.int .i64 u.1, .int .i64 u.2, .int .i64 v.1, .int .i64 v.2]] w fun e w' => e = .returned (.bool (decide (0 < C u v l r))) ∧ Hid (New w w') := by
  have H : Hid (MapE w b n m) := h
  have he : Hid (CdE (u, v)) := h.sup hl
  have hvl : Hid (CdP l ∧ CdP r) := ⟨hv _ _ hl, hv _ _ hr⟩
  clear h hv
  go_enter Tryz.func47, Tryz.ntmps47
  go_wp2_with (first
    | (at_lookup; refine wpList_lookE_some _ rfl _ _ rfl b n m rfl (H.out.new ((New.refl w).alloc' _)) (u, v) rfl hl ?_)
    | (go_at_call 63; refine (reverse_any u.1 u.2 v.1 v.2 _).mono ?_
       rintro e w1 ⟨rfl, H1⟩
       have N1 : Hid (New w w1) := (((New.refl w).alloc' _).alloc' _).trans' H1.out
       have B1 : Hid (BoxE w1 w.heap.size (u, v) ∧ BoxP w1 (w.heap.size + 1) l) := ⟨(BoxE.mk (by go_simp) (by go_simp) (by go_simp) (by go_simp) : BoxE _ _ (u, v)).new H1.out, (BoxP.mk (by go_simp) (by go_simp) : BoxP _ _ l).new H1.out⟩
       have lt0 : w.heap.size < w1.heap.size := World.block_lt_of_cell? w1 _ B1.out.1.c0
       have lt1 : w.heap.size + 1 < w1.heap.size := World.block_lt_of_cell? w1 _ B1.out.2.c0
       clear H1
       obtain ⟨⟨x0, x1, x2, x3⟩, y0, y1⟩ := B1.out)
    | (at_lookup; refine wpList_lookE_some _ rfl _ _ rfl b n m rfl (H.out.new N1.out) (v, u) rfl hr ?_)
    | (go_at_call 25; refine (ofCircle_any u.1 u.2 v.1 v.2 l.1 l.2 r.1 r.2 _ he.out.1.1 he.out.1.2 he.out.2.1 he.out.2.2 hvl.out.1.1 hvl.out.1.2 hvl.out.2.1 hvl.out.2.2).mono ?_
       rintro e w2 ⟨rfl, H2⟩
       have N2 : Hid (New w w2) := (N1.out.alloc' _).trans' H2.out
       clear H2)
    | go_in)
  go_ret
  exact ⟨by rw [show decide (0 < sgn (cdet u.1 u.2 v.1 v.2 l.1 l.2 r.1 r.2)) = decide (0 < C u v l r) from decide_eq_decide.2 sgn_pos]; rfl, N2⟩

set_option maxHeartbeats 1600000 in
theorem isWrong_out (b n : Nat) (m : Ms) (u v : Pt) (w : World) (h : MapE w b n m) (hl : m (u, v) = none) (he : CdE (u, v)) :
    Calls Tryz.prog 47 #[.map (some b), .agg #[.int .i64 u.1, .int .i64 u.2, .int .i64 v.1, .int .i64 v.2]] w fun e w' => e = .returned (.bool false) ∧ Hid (New w w') := by
  have H : Hid (MapE w b n m) := h
  have hE : Hid (CdE (u, v) ∧ CdE (v, u)) := ⟨he, he.2, he.1⟩
  clear h he
  cases hr : m (v, u) with
  | none =>
    go_enter Tryz.func47, Tryz.ntmps47
    go_wp2_with (first
      | (at_lookup; refine wpList_lookE_none _ rfl _ _ rfl b n m rfl (H.out.new ((New.refl w).alloc' _)) (u, v) rfl hE.out.1 hl ?_)
      | (go_at_call 63; refine (reverse_any u.1 u.2 v.1 v.2 _).mono ?_
         rintro e w1 ⟨rfl, H1⟩
         have N1 : Hid (New w w1) := (((New.refl w).alloc' _).alloc' _).trans' H1.out
         clear H1)
      | (at_lookup; refine wpList_lookE_none _ rfl _ _ rfl b n m rfl (H.out.new N1.out) (v, u) rfl hE.out.2 hr ?_)
      | go_in)
    go_ret
    exact ⟨rfl, N1.out.alloc' _⟩
  | some r =>
    go_enter Tryz.func47, Tryz.ntmps47
    go_wp2_with (first
      | (at_lookup; refine wpList_lookE_none _ rfl _ _ rfl b n m rfl (H.out.new ((New.refl w).alloc' _)) (u, v) rfl hE.out.1 hl ?_)
      | (go_at_call 63; refine (reverse_any u.1 u.2 v.1 v.2 _).mono ?_
         rintro e w1 ⟨rfl, H1⟩
         have N1 : Hid (New w w1) := (((New.refl w).alloc' _).alloc' _).trans' H1.out
         clear H1)
      | (at_lookup; refine wpList_lookE_some _ rfl _ _ rfl b n m rfl (H.out.new N1.out) (v, u) rfl hr ?_)
      | go_in)
    go_ret
    exact ⟨rfl, N1.out.alloc' _⟩

set_option maxHeartbeats 1600000 in
theorem isWrong_one (b n : Nat) (m : Ms) (u v l : Pt) (w : World) (h : MapE w b n m) (hl : m (u, v) = some l) (hr : m (v, u) = none) :
    Calls Tryz.prog 47 #[.map (some b), .agg #[.int .i64 u.1, .int .i64 u.2, .int .i64 v.1, .int .i64 v.2]] w fun e w' => e = .returned (.bool false) ∧ Hid (New w w') := by
  have H : Hid (MapE w b n m) := h
  have he := h.sup hl
  have hE : Hid (CdE (u, v) ∧ CdE (v, u)) := ⟨he, he.2, he.1⟩
  clear h he
  go_enter Tryz.func47, Tryz.ntmps47
  go_wp2_with (first
    | (at_lookup; refine wpList_lookE_some _ rfl _ _ rfl b n m rfl (H.out.new ((New.refl w).alloc' _)) (u, v) rfl hl ?_)
    | (go_at_call 63; refine (reverse_any u.1 u.2 v.1 v.2 _).mono ?_
       rintro e w1 ⟨rfl, H1⟩
       have N1 : Hid (New w w1) := (((New.refl w).alloc' _).alloc' _).trans' H1.out
       clear H1)
    | (at_lookup; refine wpList_lookE_none _ rfl _ _ rfl b n m rfl (H.out.new N1.out) (v, u) rfl hE.out.2 hr ?_)
    | go_in)
  go_ret
  exact ⟨rfl, N1.out.alloc' _⟩

/-- 'isWrong'. -/
theorem isWrong_any (b n : Nat) (m : Ms) (e : Ed) (w : World) (h : MapE w b n m) (he : CdE e) (hv : Vals m) :
    Calls Tryz.prog 47 #[.map (some b), .agg #[.int .i64 e.1.1, .int .i64 e.1.2, .int .i64 e.2.1, .int .i64 e.2.2]] w fun x w' => x = .returned (.bool (wrong m e)) ∧ Hid (New w w') := by
  obtain ⟨u, v⟩ := e
  cases hl : m (u, v) with
  | none =>
    have : wrong m (u, v) = false := by unfold wrong; rw [hl]
    rw [this]; exact isWrong_out b n m u v w h hl he
  | some l =>
    cases hr : m (v, u) with
    | none =>
      have : wrong m (u, v) = false := by unfold wrong; simp only [hl, hr]
      rw [this]; exact isWrong_one b n m u v l w h hl hr
    | some r => rw [wrong_mk hl hr]; exact isWrong_both b n m u v l r w h hl hr hv

end Go.Proofs.YtgeoffpcmkofkaaGreat
