/- Pa: texts laid into one. -/
import Derived.Test.YtgeoffpcmkofkaaRal
import Derived.Deep.AppendLies
import Derived.Lib.AppendZeros
/- The walk of hull's 'cut'. -/
namespace Go.Proofs.Ytgeoffpcmkofkaa
open Go.RowKit Fl
set_option maxRecDepth 100000

/-- The i-th part. -/
def partV (r0 off n i : Nat) : Value := .slice (some ⟨r0, off + i * 16, none⟩) (min 8 (n - 8 * i)) (min 8 (n - 8 * i))
def cutL (r0 off n k : Nat) : List Value := (List.range k).map (partV r0 off n)
theorem Try.info28 : (Try.prog.info? 28).map (fun i => (i.zero, i.size, i.bytes)) = some (some (.slice none 0 0), 1, 24) := by kernel_rfl
structure CutI (r0 off n : Nat) (w wr : World) (v : Value) (k : Nat) : Prop where
  new : New w wr
  own : wr.ownsRow w.heap.size 28 1 v k (cutL r0 off n k)
theorem cutL_succ (r0 off n k : Nat) : cutL r0 off n (k + 1) = cutL r0 off n k ++ [partV r0 off n k] := by simp [cutL, List.range_succ]
set_option maxHeartbeats 1600000 in
theorem cut_some (r0 off n cap : Nat) (w : World) (hn : n ≤ cap) (hs : n ≤ 1000000) :
    Calls Try.prog 90 #[.slice (some ⟨r0, off, none⟩) n cap] w fun e w' => ∃ v, e = .returned v ∧ Hid (CutI r0 off n w w' v ((n + 7) / 8)) := by
  obtain ⟨i0, hi0, hz0, hz1, hz2⟩ := info_parts Try.info28
  go_enter Try.func90, Try.ntmps90
  go_wp2_with fail
  go_loopw [3, 4] (fun v i wr => ∃ (k : Nat), i = .int .i64 ((8 * k : Nat) : Int) ∧ 8 * k < n + 8 ∧ Hid (CutI r0 off n w wr v k))
    (fun _ i _ => n + 8 - (intOf i).toNat)
  case atStart => exact ⟨0, rfl, by omega, ⟨New.refl _, World.ownsRow_nil _ _ _ _⟩⟩
  case round =>
    obtain ⟨k, rfl, hle, H⟩ := hrel
    by_cases hk : 8 * k < n
    · by_cases h8 : 8 * k + 8 ≤ n
      · have hw8 : IntKind.i64.wrap ((8 * k : Nat) + 8 : Int) = (8 * k : Nat) + 8 := by rw [IntKind.wrap_i64]; omega
        obtain ⟨vk, wk, k1, k2, k3, k4⟩ := run_append_own (P := Try.prog) (wr.alloc (.cells #[.slice (some ⟨r0, off + 8 * k * 2, none⟩) 8 8] 28)) w.heap.size 106 106 28 i0 _ 1 24 Try.underlying106 hi0 hz0 hz1 hz2 rfl (by omega) u3 k (cutL r0 off n k) (H.out.own.alloc _)
          ⟨wr.heap.size, 0, none⟩ 1 1 [.slice (some ⟨r0, off + 8 * k * 2, none⟩) 8 8] rfl (World.news_of_block (cs := #[.slice (some ⟨r0, off + 8 * k * 2, none⟩) 8 8]) (t := 28) (fr := (0, 0)) (heap_alloc_new wr _)) (by simp [Value.oneCell']) (by unfold maxLen; omega) (by omega) (by have := H.out.new.size; simp; omega)
        have R : Hid (CutI r0 off n w wk vk (k + 1)) := by
          have e : partV r0 off n k = .slice (some ⟨r0, off + 8 * k * 2, none⟩) (8) (8) := by
            unfold partV
            rw [show min 8 (n - 8 * k) = 8 by omega, show k * 16 = 8 * k * 2 by omega]
          refine ⟨(H.out.new.alloc' _).trans k3 fun g hg => ?_, by rw [cutL_succ, e]; exact k2⟩
          rcases Nat.lt_or_ge g w.heap.size with h1 | h1
          · exact absurd hg.symm (own_ne H.out.own h1)
          · exact h1
        clear k2 k3 k4
        go_wp2_with (first | (at_builtin; refine Go.Lib.wpList_append_run _ rfl _ _ 106 106 rfl _ _ rfl rfl vk wk k1 ?_) | go_in)
        go_roundw
        case rel => exact ⟨k + 1, by go_num, by omega, R⟩
        case measure => simp [intOf]; omega
      · have hlt : n < 8 * k + 8 := by omega
        obtain ⟨vk, wk, k1, k2, k3, k4⟩ := run_append_own (P := Try.prog) (wr.alloc (.cells #[.slice (some ⟨r0, off + 8 * k * 2, none⟩) (n - 8 * k) (n - 8 * k)] 28)) w.heap.size 106 106 28 i0 _ 1 24 Try.underlying106 hi0 hz0 hz1 hz2 rfl (by omega) u3 k (cutL r0 off n k) (H.out.own.alloc _)
          ⟨wr.heap.size, 0, none⟩ 1 1 [.slice (some ⟨r0, off + 8 * k * 2, none⟩) (n - 8 * k) (n - 8 * k)] rfl (World.news_of_block (cs := #[.slice (some ⟨r0, off + 8 * k * 2, none⟩) (n - 8 * k) (n - 8 * k)]) (t := 28) (fr := (0, 0)) (heap_alloc_new wr _)) (by simp [Value.oneCell']) (by unfold maxLen; omega) (by omega) (by have := H.out.new.size; simp; omega)
        have R : Hid (CutI r0 off n w wk vk (k + 1)) := by
          have e : partV r0 off n k = .slice (some ⟨r0, off + 8 * k * 2, none⟩) ((n - 8 * k)) ((n - 8 * k)) := by
            unfold partV
            rw [show min 8 (n - 8 * k) = (n - 8 * k) by omega, show k * 16 = 8 * k * 2 by omega]
          refine ⟨(H.out.new.alloc' _).trans k3 fun g hg => ?_, by rw [cutL_succ, e]; exact k2⟩
          rcases Nat.lt_or_ge g w.heap.size with h1 | h1
          · exact absurd hg.symm (own_ne H.out.own h1)
          · exact h1
        clear k2 k3 k4
        go_wp2_with (first | (at_builtin; refine Go.Lib.wpList_append_run _ rfl _ _ 106 106 rfl _ _ rfl rfl vk wk k1 ?_) | go_in)
        go_roundw
        case rel => exact ⟨k + 1, by go_num, by omega, R⟩
        case measure => simp [intOf]; omega
    · have hm : (n + 7) / 8 = k := by omega
      go_wp2_with fail
      go_ret
      exact ⟨u3, rfl, by rw [hm]; exact H⟩
end Go.Proofs.Ytgeoffpcmkofkaa
