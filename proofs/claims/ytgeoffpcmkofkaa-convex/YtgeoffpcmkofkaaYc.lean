/- The walks of package segment. -/
import Derived.Test.YtgeoffpcmkofkaaYb
namespace Go.Proofs.Ytgeoffpcmkofkaa
open Go.RowKit Fl
set_option maxRecDepth 100000
attribute [local go_sem ↓] Go.wp_at_zero Go.wp_at_succ

/-- What 'Sorted' answers. -/
def Srt (a b f l : Pt) : Prop := K f = min (K a) (K b) ∧ K l = max (K a) (K b) ∧ ((f = a ∧ l = b) ∨ (f = b ∧ l = a))

theorem Srt.cd {a b f l : Pt} (h : Srt a b f l) (ha : CdP a) (hb : CdP b) : CdP f ∧ CdP l := by
  rcases h.2.2 with ⟨rfl, rfl⟩ | ⟨rfl, rfl⟩
  · exact ⟨ha, hb⟩
  · exact ⟨hb, ha⟩

theorem holds_val {a b f l p : Pt} (h : Srt a b f l) (ha : CdP a) (hb : CdP b) (hp : CdP p) : onP a b p ↔ cmpP f p ≤ 0 ∧ cmpP p l ≤ 0 ∧ sgn (D f l p) = 0 := by
  have hc := h.cd ha hb
  rw [holds_iff ha hb hp, cmpP_eq hc.1 hp, cmpP_eq hp hc.2, sgn_zero]
  have e1 : sgn (K f - K p) ≤ 0 ↔ K f ≤ K p := by rcases sgn_cases (K f - K p) with h | h | h <;> omega
  have e2 : sgn (K p - K l) ≤ 0 ↔ K p ≤ K l := by rcases sgn_cases (K p - K l) with h | h | h <;> omega
  have e3 : D f l p = 0 ↔ D a b p = 0 := by
    rcases h.2.2 with ⟨rfl, rfl⟩ | ⟨rfl, rfl⟩
    · exact Iff.rfl
    · rw [D_swap]; omega
  rw [e1, e2, e3]
  obtain ⟨h1, h2, h3⟩ := h
  omega

set_option maxHeartbeats 800000 in
theorem holds_any (ax ay bx by' px py : Int) (w : World) (ha : CdP (ax, ay)) (hb : CdP (bx, by')) (hp : CdP (px, py)) :
    Calls Try.prog 66 #[.agg #[.int .i64 ax, .int .i64 ay, .int .i64 bx, .int .i64 by'], .agg #[.int .i64 px, .int .i64 py]] w fun e w' => e = .returned (.bool (onB (ax, ay) (bx, by') (px, py))) ∧ Hid (New w w') := by
  go_enter Try.func66, Try.ntmps66
  go_wp2_with fail
  refine (sorted_any ax ay bx by' _ ha hb).mono ?_
  rintro e w1 ⟨fx, fy, lx, ly, rfl, HK, H1⟩
  have HW : Hid (New w w1) := ((New.alloc _ _).alloc' _).trans' H1.out
  have p0 : w1.cell? ⟨w.heap.size + 1, 0, none⟩ = some (.int .i64 px) := by rw [H1.out.rule _ _ (by simp)]; go_simp
  have p1 : w1.cell? ⟨w.heap.size + 1, 1, none⟩ = some (.int .i64 py) := by rw [H1.out.rule _ _ (by simp)]; go_simp
  have HL : Hid (w.heap.size + 1 < w1.heap.size) := by have := H1.out.size; simp at this; unfold Hid; omega
  have p0' : ∀ o1 o2, ((w1.alloc o1).alloc o2).cell? ⟨w.heap.size + 1, 0, none⟩ = some (.int .i64 px) := fun o1 o2 => (((New.alloc w1 o1).alloc' o2).rule _ _ HL.out).trans p0
  have p1' : ∀ o1 o2, ((w1.alloc o1).alloc o2).cell? ⟨w.heap.size + 1, 1, none⟩ = some (.int .i64 py) := fun o1 o2 => (((New.alloc w1 o1).alloc' o2).rule _ _ HL.out).trans p1
  clear H1
  go_wp2_with fail
  refine (compare_any fx fy px py _).mono ?_
  rintro e w2 ⟨rfl, H2⟩
  have HV : Hid (onP (ax, ay) (bx, by') (px, py) ↔ cmpP (fx, fy) (px, py) ≤ 0 ∧ cmpP (px, py) (lx, ly) ≤ 0 ∧ sgn (D (fx, fy) (lx, ly) (px, py)) = 0) := holds_val HK.out ha hb hp
  have HC : Hid (CdP (fx, fy) ∧ CdP (lx, ly) ∧ CdP (px, py)) := ⟨(Srt.cd HK.out ha hb).1, (Srt.cd HK.out ha hb).2, hp⟩
  have HN : Hid (New w w2) := ((HW.out.alloc' _).alloc' _).trans' H2.out
  have r2 := H2.out.rule
  have f0 : w2.cell? ⟨w1.heap.size, 0, none⟩ = some (.int .i64 fx) := by rw [r2 _ _ (by simp; omega)]; go_simp
  have f1 : w2.cell? ⟨w1.heap.size, 1, none⟩ = some (.int .i64 fy) := by rw [r2 _ _ (by simp; omega)]; go_simp
  have l0 : w2.cell? ⟨w1.heap.size + 1, 0, none⟩ = some (.int .i64 lx) := by rw [r2 _ _ (by simp)]; go_simp
  have l1 : w2.cell? ⟨w1.heap.size + 1, 1, none⟩ = some (.int .i64 ly) := by rw [r2 _ _ (by simp)]; go_simp
  have q0 : w2.cell? ⟨w.heap.size + 1, 0, none⟩ = some (.int .i64 px) := by rw [r2 _ _ (by have := HL.out; simp; omega)]; exact p0' _ _
  have q1 : w2.cell? ⟨w.heap.size + 1, 1, none⟩ = some (.int .i64 py) := by rw [r2 _ _ (by have := HL.out; simp; omega)]; exact p1' _ _
  have HS : Hid (w.heap.size + 1 < w2.heap.size ∧ w1.heap.size + 1 < w2.heap.size) := by have h := H2.out.size; have := HL.out; simp at h; exact ⟨by omega, by omega⟩
  clear r2 H2 p0 p1 p0' p1' HL HK ha hb hp
  by_cases h1 : cmpP (fx, fy) (px, py) ≤ 0
  · have HF1 : Hid (cmpP (fx, fy) (px, py) ≤ 0) := h1
    go_wp2_with fail
    refine (compare_any px py lx ly _).mono ?_
    rintro e w3 ⟨rfl, H3⟩
    have HN3 : Hid (New w w3) := HN.out.trans' H3.out
    have f0' : w3.cell? ⟨w1.heap.size, 0, none⟩ = some (.int .i64 fx) := (H3.out.rule _ _ (by have := HS.out; omega)).trans f0
    have f1' : w3.cell? ⟨w1.heap.size, 1, none⟩ = some (.int .i64 fy) := (H3.out.rule _ _ (by have := HS.out; omega)).trans f1
    have l0' : w3.cell? ⟨w1.heap.size + 1, 0, none⟩ = some (.int .i64 lx) := (H3.out.rule _ _ (by have := HS.out; omega)).trans l0
    have l1' : w3.cell? ⟨w1.heap.size + 1, 1, none⟩ = some (.int .i64 ly) := (H3.out.rule _ _ (by have := HS.out; omega)).trans l1
    have q0' : w3.cell? ⟨w.heap.size + 1, 0, none⟩ = some (.int .i64 px) := (H3.out.rule _ _ (by have := HS.out; omega)).trans q0
    have q1' : w3.cell? ⟨w.heap.size + 1, 1, none⟩ = some (.int .i64 py) := (H3.out.rule _ _ (by have := HS.out; omega)).trans q1
    clear H3 f0 f1 l0 l1 q0 q1 HN
    by_cases h2 : cmpP (px, py) (lx, ly) ≤ 0
    · have HF2 : Hid (cmpP (px, py) (lx, ly) ≤ 0) := h2
      go_wp2_with fail
      refine (of_any fx fy lx ly px py _ HC.out.1.1 HC.out.1.2 HC.out.2.1.1 HC.out.2.1.2 HC.out.2.2.1 HC.out.2.2.2).mono ?_
      rintro e w4 ⟨rfl, H4⟩
      by_cases h3 : sgn (det fx fy lx ly px py) = 0
      · have HF : Hid (onB (ax, ay) (bx, by') (px, py) = true) := decide_eq_true (HV.out.2 ⟨HF1.out, HF2.out, h3⟩)
        go_wp2_with fail
        go_ret
        exact ⟨by rw [HF.out]; rfl, HN3.out.trans' H4.out⟩
      · have HF : Hid (onB (ax, ay) (bx, by') (px, py) = false) := decide_eq_false (fun h => h3 (HV.out.1 h).2.2)
        go_wp2_with fail
        go_ret
        exact ⟨by rw [HF.out]; simp [h3], HN3.out.trans' H4.out⟩
    · have HF : Hid (onB (ax, ay) (bx, by') (px, py) = false) := decide_eq_false (fun h => h2 (HV.out.1 h).2.1)
      have h2' : ¬ (cmpP (px, py) (lx, ly) ≤ 0) := h2
      go_wp2_with fail
      go_ret
      exact ⟨by rw [HF.out]; rfl, HN3⟩
  · have HF : Hid (onB (ax, ay) (bx, by') (px, py) = false) := decide_eq_false (fun h => h1 (HV.out.1 h).1)
    go_wp2_with fail
    go_ret
    exact ⟨by rw [HF.out]; rfl, HN⟩

end Go.Proofs.Ytgeoffpcmkofkaa
