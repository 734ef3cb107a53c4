/- The walks of package mesh: 'reverse', 'add'. -/
import Derived.Test.YtgeoffpcmkofkaaGreatMb
import Derived.Test.YtgeoffpcmkofkaaGreatYb
import Derived.Deep.RegionHeld3
namespace Go.Proofs.YtgeoffpcmkofkaaGreat
open Go.RowKit Go.Maps Fl
set_option maxRecDepth 100000
attribute [local go_sem ↓] Go.wp_at_zero Go.wp_at_succ

theorem turned_cell {w w' : World} {b k off : Nat} (h : w.mapTurned w' b) (hk : k ≠ b) : w'.cell? ⟨k, off, none⟩ = w.cell? ⟨k, off, none⟩ := by
  obtain ⟨es, clock, es', clock', hb, rfl⟩ := h
  exact World.cell?_of_block (a := ⟨k, off, none⟩) (ChangeMaps.heap_setBlock_other hb _ hk)
/-- Three boxes, two cells each. -/
structure Box3 (w : World) (k : Nat) (p q r : Pt) : Prop where
  p1 : w.cell? ⟨k, 0, none⟩ = some (.int .i64 p.1)
  p2 : w.cell? ⟨k, 1, none⟩ = some (.int .i64 p.2)
  q1 : w.cell? ⟨k + 1, 0, none⟩ = some (.int .i64 q.1)
  q2 : w.cell? ⟨k + 1, 1, none⟩ = some (.int .i64 q.2)
  r1 : w.cell? ⟨k + 1 + 1, 0, none⟩ = some (.int .i64 r.1)
  r2 : w.cell? ⟨k + 1 + 1, 1, none⟩ = some (.int .i64 r.2)
theorem Box3.turned {w w' : World} {b k : Nat} {p q r : Pt} (h : Box3 w k p q r) (t : w.mapTurned w' b) (hb : b < k) : Box3 w' k p q r :=
  ⟨(turned_cell t (by omega)).trans h.p1, (turned_cell t (by omega)).trans h.p2, (turned_cell t (by omega)).trans h.q1, (turned_cell t (by omega)).trans h.q2, (turned_cell t (by omega)).trans h.r1, (turned_cell t (by omega)).trans h.r2⟩
theorem box3_mk (w : World) (p q r : Pt) : Box3 (((w.alloc (.cells #[.int .i64 p.1, .int .i64 p.2] 36)).alloc (.cells #[.int .i64 q.1, .int .i64 q.2] 36)).alloc (.cells #[.int .i64 r.1, .int .i64 r.2] 36)) w.heap.size p q r := by
  constructor <;> go_simp

set_option maxHeartbeats 800000 in
theorem reverse_any (ax ay bx by' : Int) (w : World) : Calls Tryz.prog 63 #[.agg #[.int .i64 ax, .int .i64 ay, .int .i64 bx, .int .i64 by']] w fun e w' => e = .returned (.agg #[.int .i64 bx, .int .i64 by', .int .i64 ax, .int .i64 ay]) ∧ Hid (New w w') := by
  go_enter Tryz.func63, Tryz.ntmps63
  go_wp2_with fail
  refine bodyPost_ret (v := .agg #[.int .i64 bx, .int .i64 by', .int .i64 ax, .int .i64 ay]) (by simp [results, Tryz.results63, go_sem]) rfl ?_
  exact ⟨rfl, ((New.refl w).alloc' _).alloc' _⟩

set_option maxHeartbeats 1600000 in
theorem add_any (b n : Nat) (m : Ms) (p q r : Pt) (w : World) (h : MapE w b n m) (hn : n + 3 < maxLen) (hp : CdP p) (hq : CdP q) (hr : CdP r) :
    Calls Tryz.prog 39 #[.map (some b), .agg #[.int .i64 p.1, .int .i64 p.2], .agg #[.int .i64 q.1, .int .i64 q.2], .agg #[.int .i64 r.1, .int .i64 r.2]] w fun e w' =>
      e = .returned (.tuple #[]) ∧ Hid (MapE w' b (n + 3) (addM m p q r) ∧ w.grownBy w' (some b)) := by
  have H : Hid (MapE w b n m) := h
  have hb := h.lt
  clear h
  go_enter Tryz.func39, Tryz.ntmps39
  go_wp2_with (first
    | (at_mapUpdate; refine wpList_storeE _ rfl _ _ _ rfl b n m rfl (H.out.new (((New.refl w).alloc' _).alloc' _ |>.alloc' _)) (by omega) (p, q) r rfl rfl ⟨hp, hq⟩ ?_
       intro w1 h1 t1
       have B : Hid (Box3 w1 w.heap.size p q r) := (box3_mk w p q r).turned t1 hb
       have H1 : Hid (MapE w1 b (n + 1) (setM m (p, q) r) ∧ w.grownBy w1 (some b)) := ⟨h1, ((((New.refl w).alloc' _).alloc' _ |>.alloc' _).but (some b)).trans t1.grown⟩
       clear h1 t1 H
       obtain ⟨x1, x2, x3, x4, x5, x6⟩ := B.out)
    | (at_mapUpdate; refine wpList_storeE _ rfl _ _ _ rfl b (n + 1) _ rfl H1.out.1 (by omega) (q, r) p rfl rfl ⟨hq, hr⟩ ?_
       intro w2 h2 t2
       have B2 : Hid (Box3 w2 w.heap.size p q r) := B.out.turned t2 hb
       have H2 : Hid (MapE w2 b (n + 2) (setM (setM m (p, q) r) (q, r) p) ∧ w.grownBy w2 (some b)) := ⟨h2, H1.out.2.trans t2.grown⟩
       clear h2 t2 H1 B x1 x2 x3 x4 x5 x6
       obtain ⟨x1, x2, x3, x4, x5, x6⟩ := B2.out)
    | (at_mapUpdate; refine wpList_storeE _ rfl _ _ _ rfl b (n + 2) _ rfl H2.out.1 (by omega) (r, p) q rfl rfl ⟨hr, hp⟩ ?_
       intro w3 h3 t3
       have H3 : Hid (MapE w3 b (n + 3) (addM m p q r) ∧ w.grownBy w3 (some b)) := ⟨h3, H2.out.2.trans t3.grown⟩
       clear h3 t3 H2 B2 x1 x2 x3 x4 x5 x6)
    | go_in)
  go_end0
  exact ⟨rfl, H3⟩

end Go.Proofs.YtgeoffpcmkofkaaGreat
