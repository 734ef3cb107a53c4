/- The walk of 'triangles' of package mesh. -/
import Derived.Test.YtgeoffpcmkofkaaGreatRk
namespace Go.Proofs.YtgeoffpcmkofkaaGreat
open Go.RowKit Go.Maps Fl
set_option maxRecDepth 100000
attribute [local go_sem ↓] Go.wp_at_zero Go.wp_at_succ

def triAt (num : Ns) (e : Ed) (c : Pt) : Tri3 := (atN num e.1, atN num e.2, atN num c)
/-- A triangle, from its side that begins at the least number. -/
def IsT (m : Ms) (num : Ns) (e : Ed) (t : Tri3) : Prop := ∃ c, m e = some c ∧ t = triAt num e c ∧ t.1 < min t.2.1 t.2.2
/-- A row of triangles, which the call has made. -/
def OwnT (w : World) (base : Nat) (v : Value) (l : List Tri3) : Prop := w.ownsRow base 33 3 v l.length (l.flatMap encT)
theorem Tryz.inf33 : (Tryz.prog.info? 33).map (fun i => (i.zero, i.size, i.bytes)) = some (some (.agg #[.int .i64 0, .int .i64 0, .int .i64 0]), 3, 24) := by kernel_rfl
theorem OwnT.new {w w' : World} {base : Nat} {v : Value} {l : List Tri3} (h : OwnT w base v l) (hg : New w w') : OwnT w' base v l := World.ownsRow.kept h hg (by cases v.ownBlock <;> simp)
theorem OwnT.kept {w w' : World} {base r : Nat} {v : Value} {l : List Tri3} (h : OwnT w base v l) (hg : w.grownBy w' (some r)) (hr : r < base) : OwnT w' base v l := by
  refine World.ownsRow.kept h hg ?_
  cases hv : v.ownBlock with
  | none => exact .inl rfl
  | some k => exact .inr (by have := (World.ownsRow.lt h k hv).1; simp; omega)
theorem OwnT.form {w : World} {base : Nat} {v : Value} {l : List Tri3} (h : OwnT w base v l) : (v = .slice none 0 0 ∧ l = []) ∨ ∃ g cap, v = .slice (some ⟨g, 0, none⟩) l.length cap ∧ base ≤ g ∧ g < w.heap.size ∧ l.length ≤ cap ∧ cap ≤ maxLen := by
  rcases h.2 with ⟨e, hn⟩ | ⟨g, cap, cur, e, hb, hg, h1, h2, _⟩
  · exact .inl ⟨e, List.eq_nil_of_length_eq_zero hn⟩
  · exact .inr ⟨g, cap, e, hb, (Array.getElem?_eq_some_iff.1 hg).1, h1, h2⟩

/-- Where the loop stands. -/
structure TF (w wr : World) (b n : Nat) (m : Ms) (num : Ns) (v : Value) (vis : List Ed) (L : List Tri3) : Prop where
  rg : RangeE wr b w.heap.size n m vis
  new : New w wr
  own : OwnT wr (w.heap.size + 1) v L
  nd : L.Nodup
  iff : ∀ t, t ∈ L ↔ ∃ e ∈ vis, IsT m num e t
  sz : w.heap.size + 1 ≤ wr.heap.size
  len : L.length ≤ vis.length
theorem TF.step {w wr wx : World} {b n : Nat} {m : Ms} {num : Ns} {v : Value} {vis vis' : List Ed} {L : List Tri3} (h : TF w wr b n m num v vis L) (hg : wr.grownBy wx (some w.heap.size)) (hr : RangeE wx b w.heap.size n m vis') (hi : ∀ t, t ∈ L ↔ ∃ e ∈ vis', IsT m num e t) (hl : vis.length ≤ vis'.length) : TF w wx b n m num v vis' L :=
  ⟨hr, h.new.own hg (Nat.le_refl _), h.own.kept hg (by omega), h.nd, hi, Nat.le_trans h.sz hg.size, Nat.le_trans h.len hl⟩
theorem TF.next {w wr wx : World} {b n : Nat} {m : Ms} {num : Ns} {v : Value} {vis : List Ed} {L : List Tri3} (h : TF w wr b n m num v vis L) (hg : New wr wx) : TF w wx b n m num v vis L ∧ wx.rangeLeft b w.heap.size = wr.rangeLeft b w.heap.size := by
  obtain ⟨k1, k2⟩ := h.rg.kept hg (by simp) (by simp)
  exact ⟨⟨k1, h.new.trans' hg, h.own.new hg, h.nd, h.iff, Nat.le_trans h.sz hg.size, h.len⟩, k2⟩

/-- The triangles of a mesh, each once, in their order. -/
structure IsTri (m : Ms) (num : Ns) (L : List Tri3) : Prop where
  nd : L.Nodup
  iff : ∀ t, t ∈ L ↔ ∃ e, IsT m num e t
  pw : L.Pairwise (fun x y => ltOf cmpT y x = false)

set_option maxHeartbeats 3200000 in
theorem triangles_any (b n bn nn : Nat) (m : Ms) (num : Ns) (w : World) (PS : List Ed) (hm : MapE w b n m) (hn : MapI w bn nn num) (hv : Vals m) (hPS : ∀ e, (m e).isSome = true → e ∈ PS) (hlen : PS.length ≤ 1000000)
    (hinj : ∀ e f c d, m e = some c → m f = some d → atN num e.1 = atN num f.1 → atN num e.2 = atN num f.2 → e = f) :
    Calls Tryz.prog 29 #[.map (some b), .map (some bn)] w fun e w' => ∃ v L, e = .returned v ∧ Hid (New w w' ∧ IsTri m num L ∧ OwnT w' w.heap.size v L) := by
  have H0 : Hid (MapE w b n m ∧ b < w.heap.size ∧ MapI w bn nn num ∧ bn < w.heap.size ∧ Vals m ∧ (∀ e, (m e).isSome = true → e ∈ PS) ∧ (∀ e f c d, m e = some c → m f = some d → atN num e.1 = atN num f.1 → atN num e.2 = atN num f.2 → e = f)) := ⟨hm, hm.lt, hn, hn.lt, hv, hPS, hinj⟩
  clear hm hn hv hPS hinj
  obtain ⟨i0, hi0, hz0, hz1, hz2⟩ := info_parts Tryz.inf33
  go_enter Tryz.func29, Tryz.ntmps29
  go_wp2_with (first
    | (at_range; refine wpList_rangeE _ rfl _ rfl b n m rfl H0.out.1 ?_
       intro w0 r0 n0 s0
       have HS : Hid (TF w w0 b n m num (.slice none 0 0) [] []) := ⟨r0, n0, World.ownsRow_nil _ _ _ _, List.nodup_nil, (fun e => by simp), by rw [s0]; omega, by simp⟩
       clear r0 n0 s0)
    | go_in)
  go_frame
  go_loopw [5] (fun v wr => ∃ vis L, Hid (TF w wr b n m num v vis L)) (fun _ wr => wr.rangeLeft b w.heap.size)
  case atStart => exact ⟨[], [], HS⟩
  case round =>
    obtain ⟨vis, L, H⟩ := hrel
    have HLn : Hid (L.length ≤ 1000000) := by
      refine Nat.le_trans H.out.len (Nat.le_trans (length_le_of_sub (l₂ := PS) H.out.rg.nodup.1 fun e he => ?_) hlen)
      exact H0.out.2.2.2.2.2.1 e (H.out.rg.nodup.2 e he)
    go_wp2_with (first
      | (at_next; refine wpList_nextE _ rfl _ rfl b w.heap.size n m vis rfl H.out.rg ?_ ?_)
      | go_in)
    · intro hall
      have HF : Hid (L.Nodup ∧ (∀ t, t ∈ L ↔ ∃ e, IsT m num e t)) := ⟨H.out.nd, fun t => by
        rw [H.out.iff]
        exact ⟨fun ⟨e, _, k⟩ => ⟨e, k⟩, fun ⟨e, k⟩ => ⟨e, hall e.1.1 e.1.2 e.2.1 e.2.2 (by obtain ⟨c, hc, _⟩ := k; rw [hc]; rfl), k⟩⟩⟩
      clear hall
      rcases H.out.own.form with ⟨e1, e2⟩ | ⟨g, cap, e1, hb, hg, hlc, hcm⟩
      · subst e1 e2
        go_wp2_with fail
        refine (sortT_none none 0 _ _).mono ?_
        rintro e w2 ⟨rfl, rfl⟩
        go_wp2_with fail
        go_ret
        exact ⟨_, [], rfl, H.out.new, ⟨HF.out.1, HF.out.2, .nil⟩, World.ownsRow_nil _ _ _ _⟩
      · subst e1
        have HG : Hid (w.heap.size + 1 ≤ g ∧ g < wr.heap.size) := ⟨hb, hg⟩
        clear hb hg hlc hcm
        go_wp2_with fail
        refine (sortT_any (w.heap.size + 1) g cap L wr H.out.own HG.out.2 (by have := HLn.out; omega)).mono ?_
        rintro e w2 ⟨rfl, H2⟩
        go_wp2_with fail
        go_ret
        obtain ⟨L', k1, k2, k3, k4⟩ := H2.out
        refine ⟨_, L', rfl, H.out.new.own k4 (by have := HG.out.1; omega), ⟨(k1.nodup_iff).2 HF.out.1, fun e => by rw [k1.mem_iff]; exact HF.out.2 e, k2⟩, ?_⟩
        unfold OwnT
        rw [k1.length_eq]
        exact ⟨k3.1, k3.2.imp id fun ⟨g, cap, cur, a1, a2, a3⟩ => ⟨g, cap, cur, a1, by omega, a3⟩⟩
    · intro ex ey fx fy cx cy w1 hmc he hnv hr1 hlt hg1 hs1 hen
      have HM : Hid (m ((ex, ey), (fx, fy)) = some (cx, cy) ∧ CdE ((ex, ey), (fx, fy)) ∧ ((ex, ey), (fx, fy)) ∉ vis ∧ RangeE w1 b w.heap.size n m (vis ++ [((ex, ey), (fx, fy))]) ∧ w1.rangeLeft b w.heap.size < wr.rangeLeft b w.heap.size ∧ wr.grownBy w1 (some w.heap.size) ∧ CdP (cx, cy)) := ⟨hmc, he, hnv, hr1, hlt, hg1, H0.out.2.2.2.2.1 _ _ hmc⟩
      clear hmc he hnv hr1 hlt hg1 hs1
      obtain ⟨A, hA⟩ : ∃ A, A = atN num (ex, ey) := ⟨_, rfl⟩
      obtain ⟨B, hB⟩ : ∃ B, B = atN num (fx, fy) := ⟨_, rfl⟩
      obtain ⟨Q, hQ⟩ : ∃ Q, Q = atN num (cx, cy) := ⟨_, rfl⟩
      have HT : Hid (triAt num ((ex, ey), (fx, fy)) (cx, cy) = (A, B, Q)) := by rw [hA, hB, hQ]; rfl
      have HI : Hid (MapI w1 bn nn num) := (H0.out.2.2.1.kept H.out.new (by simp)).kept HM.out.2.2.2.2.2.1 (by have := H0.out.2.2.2.1; simp; omega)
      have LK : Hid (∀ V, New w1 V → (Instr.lookup 54 (.map (some bn)) (.agg #[.int .i64 ex, .int .i64 ey]) false).run Tryz.prog V = .ok (.int .i64 A) V ∧ (Instr.lookup 54 (.map (some bn)) (.agg #[.int .i64 fx, .int .i64 fy]) false).run Tryz.prog V = .ok (.int .i64 B) V ∧ (Instr.lookup 54 (.map (some bn)) (.agg #[.int .i64 cx, .int .i64 cy]) false).run Tryz.prog V = .ok (.int .i64 Q) V) := by
        intro V hV
        have h1 := (HI.out.new hV).look (e := (ex, ey)) HM.out.2.1.1
        have h2 := (HI.out.new hV).look (e := (fx, fy)) HM.out.2.1.2
        have h3 := (HI.out.new hV).look (e := (cx, cy)) HM.out.2.2.2.2.2.2
        rw [hA, hB, hQ]
        exact ⟨h1, h2, h3⟩
      clear hA hB hQ
      go_wp2_with fail
      obtain ⟨W, hW⟩ : ∃ W, W = (w1.alloc (.cells #[.int .i64 ex, .int .i64 ey, .int .i64 fx, .int .i64 fy] 65)).alloc (.cells #[.int .i64 cx, .int .i64 cy] 36) := ⟨_, rfl⟩
      have HW : Hid (New w1 W ∧ W.heap.size = w1.heap.size + 2) := by rw [hW]; exact ⟨((New.refl w1).alloc' _).alloc' _, by simp⟩
      have x0 : W.cell? ⟨w1.heap.size, 0, none⟩ = some (.int .i64 ex) := by rw [hW]; go_simp
      have x1 : W.cell? ⟨w1.heap.size, 1, none⟩ = some (.int .i64 ey) := by rw [hW]; go_simp
      have x2 : W.cell? ⟨w1.heap.size, 2, none⟩ = some (.int .i64 fx) := by rw [hW]; go_simp
      have x3 : W.cell? ⟨w1.heap.size, 3, none⟩ = some (.int .i64 fy) := by rw [hW]; go_simp
      have y0 : W.cell? ⟨w1.heap.size + 1, 0, none⟩ = some (.int .i64 cx) := by rw [hW]; go_simp
      have y1 : W.cell? ⟨w1.heap.size + 1, 1, none⟩ = some (.int .i64 cy) := by rw [hW]; go_simp
      rw [← hW]
      clear hW
      obtain ⟨l1, l2, l3⟩ := LK.out W.drew (HW.out.1.dr)
      obtain ⟨l4, l5, l6⟩ := LK.out (W.alloc (.cells #[.int .i64 0, .int .i64 0, .int .i64 0] 33)).drew (HW.out.1.alloc' _).dr
      go_cut [8] from 16 to 27 (fun s8 wx => ∃ b8 : Nat, s8 = .pointer (some ⟨b8, 0, none⟩) ∧ Hid (New w1 wx ∧ wx.cell? ⟨b8, 0, none⟩ = some (.int .i64 A) ∧ wx.cell? ⟨b8, 1, none⟩ = some (.int .i64 B) ∧ wx.cell? ⟨b8, 2, none⟩ = some (.int .i64 Q)))
      case first =>
        go_region_held3 (fun V => V.cell? ⟨w1.heap.size, 0, none⟩ = some (.int .i64 ex) ∧ V.cell? ⟨w1.heap.size, 1, none⟩ = some (.int .i64 ey) ∧ V.cell? ⟨w1.heap.size, 2, none⟩ = some (.int .i64 fx) ∧ V.cell? ⟨w1.heap.size, 3, none⟩ = some (.int .i64 fy) ∧ V.cell? ⟨w1.heap.size + 1, 0, none⟩ = some (.int .i64 cx) ∧ V.cell? ⟨w1.heap.size + 1, 1, none⟩ = some (.int .i64 cy))
          (first | go_keep) (first | fail)
        all_goals (
          clear x0 x1 x2 x3 y0 y1 l1 l2 l3 l4 l5 l6
          go_wp2_with fail
          go_meet
          exact ⟨_, rfl, (HW.out.1.alloc' _).dr, by go_simp, by go_simp, by go_simp⟩)
      case rest =>
        obtain ⟨b8, rfl, H8⟩ := hcut
        obtain ⟨_, z0, z1, z2⟩ := H8.out
        have lt8 : b8 < wc.heap.size := World.block_lt_of_cell? wc _ z0
        clear x0 x1 x2 x3 y0 y1 l1 l2 l3 l4 l5 l6 LK
        by_cases hlt : A < min B Q
        · have hIT : Hid (IsT m num ((ex, ey), (fx, fy)) (A, B, Q)) := ⟨(cx, cy), HM.out.1, HT.out.symm, hlt⟩
          go_wp2_with (first
            | (at_builtin; refine wpList_append_own _ rfl _ _ 25 rfl (w.heap.size + 1) 33 i0 (.agg #[.int .i64 0, .int .i64 0, .int .i64 0]) 3 24 Tryz.underlying25 hi0 hz0 hz1 hz2 rfl (by decide) _ _ _ rfl (World.ownsRow.alloc ((H.out.own.kept HM.out.2.2.2.2.2.1 (by omega)).new H8.out.1) _) ⟨wc.heap.size, 0, none⟩ 1 1 [.int .i64 A, .int .i64 B, .int .i64 Q] rfl rfl (World.news_of_block (cs := #[.int .i64 A, .int .i64 B, .int .i64 Q]) (t := 33) (fr := (0, 0)) (heap_alloc_new wc _)) (by simp [Value.oneCell']) (by unfold maxLen; have := HLn.out; omega) (by have := HLn.out; omega) (by have h1 := H.out.sz; have h2 := HM.out.2.2.2.2.2.1.size; have h3 := H8.out.1.size; simp; omega) ?_
               intro v' w4 o4 g4 _
               have HA : Hid (w4.ownsRow (w.heap.size + 1) 33 3 v' (L.length + 1) (L.flatMap encT ++ [.int .i64 A, .int .i64 B, .int .i64 Q]) ∧ (wc.alloc (.cells #[.int .i64 A, .int .i64 B, .int .i64 Q] 33)).grownBy w4 u5.ownBlock) := ⟨o4, g4⟩
               clear o4 g4)
            | go_in)
          have hlo : ∀ k, u5.ownBlock = some k → w.heap.size + 1 ≤ k := fun k hk => (World.ownsRow.lt H.out.own k hk).1
          have hbw := H0.out.2.1
          obtain ⟨r1, r2⟩ := HM.out.2.2.2.1.kept (H8.out.1.alloc' _) (by simp) (by simp)
          obtain ⟨r3, r4⟩ := r1.kept HA.out.2 (fun e => by have := hlo b e.symm; omega) (fun e => by have := hlo _ e.symm; omega)
          have s1 := H.out.new.own HM.out.2.2.2.2.2.1 (Nat.le_refl _)
          refine ⟨⟨vis ++ [((ex, ey), (fx, fy))], L ++ [(A, B, Q)], r3, ?_, ?_, ?_, fun t => ?_, ?_, ?_⟩, by rw [r4, r2]; exact HM.out.2.2.2.2.1⟩
          · exact (s1.trans' (H8.out.1.alloc' _)).ownO HA.out.2 (fun k hk => by have := hlo k hk; omega)
          · unfold OwnT
            rw [List.length_append, List.flatMap_append]
            exact HA.out.1
          · rw [List.nodup_append]
            refine ⟨H.out.nd, by simp, fun a ha c hc => ?_⟩
            simp at hc
            subst hc
            rintro rfl
            obtain ⟨e', he', c', hc', ht', _⟩ := (H.out.iff _).1 ha
            have ht := HT.out
            rw [ht'] at ht
            simp only [triAt, Prod.mk.injEq] at ht
            have := H0.out.2.2.2.2.2.2 _ _ _ _ HM.out.1 hc' ht.1 ht.2.1
            exact HM.out.2.2.1 (this ▸ he')
          · simp only [List.mem_append, List.mem_singleton]
            constructor
            · rintro (k | k)
              · obtain ⟨e, he, k⟩ := (H.out.iff t).1 k
                exact ⟨e, .inl he, k⟩
              · rw [k]; exact ⟨_, .inr rfl, hIT.out⟩
            · rintro ⟨e, he | he, k⟩
              · exact .inl ((H.out.iff t).2 ⟨e, he, k⟩)
              · right
                subst he
                obtain ⟨c', hc', ht', _⟩ := k
                rw [HM.out.1] at hc'
                injection hc' with hc'
                rw [ht', ← hc', HT.out]
          · have a1 := HA.out.2.size
            have a2 := H8.out.1.size
            have a3 := H.out.sz
            have a4 := HM.out.2.2.2.2.2.1.size
            simp at a1
            omega
          · have := H.out.len
            simp
            omega
        · go_wp2_with fail
          have s1 := H.out.step HM.out.2.2.2.2.2.1 HM.out.2.2.2.1 (fun t => by
            rw [H.out.iff]
            simp only [List.mem_append, List.mem_singleton]
            constructor
            · rintro ⟨e, he, k⟩; exact ⟨e, .inl he, k⟩
            · rintro ⟨e, he | he, k⟩
              · exact ⟨e, he, k⟩
              · subst he
                obtain ⟨c', hc', ht', hl'⟩ := k
                rw [HM.out.1] at hc'
                injection hc' with hc'
                rw [ht', ← hc', HT.out] at hl'
                exact absurd hl' hlt) (by simp)
          obtain ⟨s2, s3⟩ := s1.next H8.out.1
          exact ⟨⟨_, _, s2⟩, by rw [s3]; exact HM.out.2.2.2.2.1⟩

end Go.Proofs.YtgeoffpcmkofkaaGreat
