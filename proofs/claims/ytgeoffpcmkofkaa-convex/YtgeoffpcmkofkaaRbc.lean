/- Qi; Hi: texts laid into one. -/
import Derived.Test.YtgeoffpcmkofkaaRap
import Derived.Test.YtgeoffpcmkofkaaRbb
import Derived.Test.YtgeoffpcmkofkaaRaa
/- 'around', as the main goroutine's walk and the others' ask for it. -/
namespace Go.Proofs.Ytgeoffpcmkofkaa
open Go Go.Conc Go.RowKit Fl

theorem rowQ_own {r0 base : Nat} {v : Value} {w : World} {out : Pts} (h : OwnP w base v out) (hr : r0 < base) : RowQ r0 v w out := by
  rcases h.form with ⟨rfl, e⟩ | ⟨g, cap, rfl, hb, _⟩
  · exact .inl ⟨rfl, e⟩
  · exact .inr ⟨g, cap, rfl, by omega, h.pts⟩
/-- The cells of a list of points that lies in a block. -/
def PtsIn (c : Array Value) (off : Nat) (l : Pts) : Prop := ∀ i (hi : i < l.length), c[off + i * 2]? = some (.int .i64 l[i].1) ∧ c[off + i * 2 + 1]? = some (.int .i64 l[i].2)
theorem PtsIn.at {c : Array Value} {off r0 : Nat} {l : Pts} {w : World} {fz : Nat × Nat} (h : PtsIn c off l) (hw : w.heap[r0]? = some (.cells c 23 fz)) : PtsAt w r0 off l := fun i hi => by
  obtain ⟨h1, h2⟩ := h i hi
  simp only [World.cell?, hw]
  exact ⟨h1, h2⟩
theorem aroundC {r0 off cap : Nat} {c : Array Value} {l s : Pts} (h : PtsIn c off l) (hl : l.length ≤ 400000) (hc : ∀ x ∈ l, CdP x) (hs : IsDis l s) : AroundC r0 off l.length cap c (ringL s) := fun wl hw => by
  refine (around_some r0 off cap l wl (h.at hw) hl hc).mono ?_
  rintro e w' ⟨v, s', rfl, H⟩
  have e : s' = s := dis_unique H.out.1.rising hs.rising fun x => by rw [H.out.1.mem, hs.mem]
  subst e
  exact ⟨v, rfl, rowQ_own H.out.2.2 (Array.getElem?_eq_some_iff.1 hw).1⟩
theorem aroundN : AroundN [] := fun wl => (around_nil wl).mono fun _ _ h => ⟨_, h.1, .inl ⟨rfl, rfl⟩⟩
end Go.Proofs.Ytgeoffpcmkofkaa
/- The plane of the program's points, and the list of points in their order. -/
namespace Go.Proofs.Ytgeoffpcmkofkaa
open Go Go.RowKit Fl

theorem plDK : Pl D K where
  rot a b c := by simp only [D, det]; grind
  swp a b c := by simp only [D, det]; grind
  pl s t p x := by simp only [D, det, K]; grind
theorem affDK : Aff D K := fun u v a b x => by simp only [D, det, K]; grind

/-- The points of a list in their order, each once. -/
def disL (l : Pts) : Pts := ddN (l.mergeSort fun x y => decide (K x ≤ K y)) l.length
theorem disL_is {l : Pts} (hc : ∀ x ∈ l, CdP x) : IsDis l (disL l) := by
  have hp : (l.mergeSort fun x y => decide (K x ≤ K y)).Perm l := List.mergeSort_perm l _
  have hs : (l.mergeSort fun x y => decide (K x ≤ K y)).Pairwise fun x y => K x ≤ K y := by
    have := List.pairwise_mergeSort (le := fun x y => decide (K x ≤ K y)) (fun a b c h1 h2 => by simp at *; omega) (fun a b => by simp; omega) l
    exact this.imp fun h => by simpa using h
  have hl := hp.length_eq
  have h := ddN_dis hs (fun x hx y hy hk => K_inj (hc x (hp.mem_iff.1 hx)) (hc y (hp.mem_iff.1 hy)) hk) l.length (by omega)
  refine ⟨h.1, fun x => ?_, ddN_le _ _⟩
  unfold disL
  rw [h.2, List.take_of_length_le (by omega)]
  exact hp.mem_iff
end Go.Proofs.Ytgeoffpcmkofkaa
