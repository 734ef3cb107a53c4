/- 'around', as the main goroutine's walk and the others' ask for it. -/
import Derived.Test.YtgeoffpcmkofkaaQh
import Derived.Test.YtgeoffpcmkofkaaMj
namespace Go.Proofs.Ytgeoffpcmkofkaa
open Go Go.Conc Go.RowKit Fl

theorem rowQ_own {r0 base : Nat} {v : Value} {w : World} {out : Pts} (h : OwnP w base v out) (hr : r0 < base) : RowQ r0 v w out := by
  rcases h.form with ⟨rfl, e⟩ | ⟨g, cap, rfl, hb, _⟩
  · exact .inl ⟨rfl, e⟩
  · exact .inr ⟨g, cap, rfl, by omega, h.pts⟩
/-- The cells of a list of points that lies in a block. -/
def PtsIn (c : Array Value) (off : Nat) (l : Pts) : Prop := ∀ i (hi : i < l.length), c[off + i * 2]? = some (.int .i64 l[i].1) ∧ c[off + i * 2 + 1]? = some (.int .i64 l[i].2)
theorem PtsIn.at {c : Array Value} {off r0 : Nat} {l : Pts} {w : World} {fz : Nat × Nat} (h : PtsIn c off l) (hw : w.heap[r0]? = some (.cells c 23 fz)) : PtsAt w r0 off l := fun i hi => by
  obtain ⟨h1, h2⟩ := h i hi
  simp only [World.cell?, hw]
  exact ⟨h1, h2⟩
theorem aroundC {r0 off cap : Nat} {c : Array Value} {l s : Pts} (h : PtsIn c off l) (hl : l.length ≤ 400000) (hc : ∀ x ∈ l, CdP x) (hs : IsDis l s) : AroundC r0 off l.length cap c (ringL s) := fun wl hw => by
  refine (around_some r0 off cap l wl (h.at hw) hl hc).mono ?_
  rintro e w' ⟨v, s', rfl, H⟩
  have e : s' = s := dis_unique H.out.1.rising hs.rising fun x => by rw [H.out.1.mem, hs.mem]
  subst e
  exact ⟨v, rfl, rowQ_own H.out.2.2 (Array.getElem?_eq_some_iff.1 hw).1⟩
theorem aroundN : AroundN [] := fun wl => (around_nil wl).mono fun _ _ h => ⟨_, h.1, .inl ⟨rfl, rfl⟩⟩
end Go.Proofs.Ytgeoffpcmkofkaa
