/- 'Reverse' of package slices, at points. -/
import Derived.Test.YtgeoffpcmkofkaaQd
import Derived.Shelf.SlicesQ.Reverse
namespace Go.Proofs.Ytgeoffpcmkofkaa
open Go.RowKit Fl Go.Sort Go.Shelf Go.Lib
set_option maxRecDepth 100000

def Try.revP_ren : Go.Shelf.Ren := ⟨fun | 35 => 88 | n => n, fun | 22 => 28 | 23 => 23 | n => n, fun | n => n⟩
theorem Try.revP : Go.Proofs.SlLaysE0.n35 Try.prog Try.revP_ren := {
  mixed := by kernel_rfl
  f35 := ⟨Try.f88.name, by decide, Try.func88.trans (congrArg some (by kernel_rfl))⟩
  t0 := Try.underlying0
  a0 := Try.isAgg0
  z0 := Try.sizeOf0
  v0 := Try.zeroValue0
  t3 := Try.underlying3
  a3 := Try.isAgg3
  z3 := Try.sizeOf3
  v3 := Try.zeroValue3
  t4 := Try.underlying4
  a4 := Try.isAgg4
  z4 := Try.sizeOf4
  v4 := Try.zeroValue4
  t22 := Try.underlying28
  a22 := Try.isAgg28
  z22 := Try.sizeOf28
  v22 := Try.zeroValue28 }
theorem reverse_any (base g cap : Nat) (l : Pts) (w : World) (h : OwnP w base (.slice (some ⟨g, 0, none⟩) l.length cap) l) (hl : l.length ≤ 1000000) :
    Calls Try.prog 88 #[.slice (some ⟨g, 0, none⟩) l.length cap] w fun e w' => e = .returned (.tuple #[]) ∧ Hid (w.grownBy w' (some g) ∧ OwnP w' base (.slice (some ⟨g, 0, none⟩) l.length cap) l.reverse) := by
  have hc := AnyQ.slices_Reverse Try.revP 2 Try.isAgg23 Try.sizeOf23 encP lenP (fun x v hv => by simp [encP] at hv; rcases hv with rfl | rfl <;> rfl) g 0 cap l.toArray w (holdsK_row lenP h rfl) (by simpa using (show l.length ≤ 9223372036854775807 by omega))
  change Calls Try.prog 88 _ _ _ at hc
  refine hc.mono fun e w' hh => ?_
  obtain ⟨he, n, rfl⟩ := hh
  have hr := sorted_row lenP (m := n) (os := #[]) (l' := l.reverse) h rfl (by simp)
  have e : sortWorldK encP 2 w g 0 n l.reverse.toArray #[] = putRowK encP 2 (Sort.ahead w n) g 0 l.toArray.reverse := by
    simp [sortWorldK, grow]
  rw [e] at hr
  exact ⟨he, hr.2, by unfold OwnP; rw [List.length_reverse]; exact hr.1⟩
end Go.Proofs.Ytgeoffpcmkofkaa
