/-
  What Take and Give of package runrigref07 answer and leave in memory: contracts over the translation. Each says its own conditions.
-/
import Derived.Test.YtbfnbiadmmpaaaaRef07
namespace Go.Proofs.Ytbfnbiadmmpaaaa
open Go.RowKit
set_option linter.unusedVariables false
set_option linter.unusedSimpArgs false

theorem set_size (w : World) (p : Addr) (v : Value) : (w.setCell p v).heap.size = w.heap.size := by simp [World.setCell]
/-- what is new in G' is new memory -/
def ExtR (w : World) (F F' : Nat → Prop) : Prop := ∀ k, F' k → F k ∨ w.heap.size ≤ k
set_option maxHeartbeats 2000000 in
theorem rtake_some {G : Nat → Prop} {L T : List Int} (X : Nat) (f : Int) (w : World) (h : RefL w X G (f :: L) T) (hL : L.length ≤ 1048576) (ht : T.length ≤ 1048576) :
    Calls Try.prog 10 #[.pointer (some ⟨X, 0, none⟩)] w fun e w' => e = .returned (.tuple #[.int .i64 f, .int .i64 0]) ∧ (∃ G', RefL w' X G' L (T ++ [f]) ∧ ExtR w G G') ∧ Chg (fun k => k = X) w w' := by
  obtain ⟨i0, hi, hz0, hz1, hz2⟩ := info_parts infoI
  obtain ⟨A1, A2, Y1, Y2, c1, c2, h, rfl⟩ := h
  obtain ⟨off, rfl, hlt, hc1, hc1m, hcl⟩ : ∃ off, A1 = some ⟨Y1, off, none⟩ ∧ Y1 < w.heap.size ∧ L.length + 1 ≤ c1 ∧ c1 ≤ maxLen ∧ ∀ i (h : i < (f :: L).length), w.cell? ⟨Y1, off + i, none⟩ = some (.int .i64 (f :: L)[i]) := by
    rcases h.r1 with ⟨_, h, _⟩ | h
    · cases h
    · exact h
  obtain ⟨l, hl⟩ : ∃ l, l = L.length := ⟨_, rfl⟩
  obtain ⟨t, htl⟩ : ∃ t, t = T.length := ⟨_, rfl⟩
  have x0 : w.cell? ⟨X, 0, none⟩ = some (.slice (some ⟨Y1, off, none⟩) (l + 1) c1) := by rw [hl]; exact h.blk.cell 0
  have hb : Blk w X [.slice (some ⟨Y1, off, none⟩) (l + 1) c1, .slice A2 t c2] 38 := by rw [hl, htl]; exact h.blk
  have g0 := h.blk.free 0
  have hx : w.cell? ⟨Y1, off, none⟩ = some (.int .i64 f) := hcl 0 (by simp)
  have hrest : ∀ i (h : i < L.length), w.cell? ⟨Y1, off + 1 + i, none⟩ = some (.int .i64 L[i]) := fun i hi => by
    rw [show off + 1 + i = off + (i + 1) from by omega]
    exact hcl (i + 1) (by rw [List.length_cons]; omega)
  have hn1 : Y1 ≠ X := h.n1 (by simp)
  have hn2 := h.n2
  have hr2 := h.r2
  have hXl := h.blk.lt
  rw [← hl] at hL hc1
  rw [← htl] at ht
  unfold maxLen at hc1m
  have hd : ((l : Int) + 1 == 0) = false := by simp; omega
  have HB := Lib.hid hb; have HREST := Lib.hid hrest; have HL := Lib.hid hl; have HT := Lib.hid htl; have HN2 := Lib.hid hn2
  clear h hcl hb hrest hl htl hn2
  by_cases hcap : c1 = 1
  · have hl0 : l = 0 := by omega
    subst hcap
    subst hl0
    clear hd hc1
    have hd : ((0 : Int) + 1 == 0) = false := by simp
    have hrd : Rdi w (some ⟨Y1, off, none⟩) Y1 0 L := by
          have e : L = [] := List.length_eq_zero_iff.1 HL.out.symm
          rw [e]
          exact .inr ⟨off, rfl, hlt, Nat.le_refl _, by unfold maxLen; omega, fun i hi => by simp at hi⟩
    have HRD := Lib.hid hrd
    clear hrd
    have hbs := HB.out.set 0 (.slice (some ⟨Y1, off, none⟩) 0 0)
    have hbs : Blk (w.setCell ⟨X, 0, none⟩ (.slice (some ⟨Y1, off, none⟩) 0 0)) X [(.slice (some ⟨Y1, off, none⟩) 0 0), .slice A2 t c2] 38 := hbs
    have x1 : ∀ o, ((w.setCell ⟨X, 0, none⟩ (.slice (some ⟨Y1, off, none⟩) 0 0)).alloc o).cell? ⟨X, 1, none⟩ = some (.slice A2 t c2) := fun o => (hbs.alloc o).cell 1
    have hcs := Chg.setCell (F := fun k => k = X) w ⟨X, 0, none⟩ (.slice (some ⟨Y1, off, none⟩) 0 0) rfl
    have ho0 : ((w.setCell ⟨X, 0, none⟩ (.slice (some ⟨Y1, off, none⟩) 0 0)).alloc (.cells #[] 3)).ownsRow w.heap.size 3 1 (.slice (some ⟨w.heap.size, 0, none⟩) 0 0) 0 [] := by
      have := World.ownsRow_made (base := w.heap.size) (e := 3) (size := 1) (w.setCell ⟨X, 0, none⟩ (.slice (some ⟨Y1, off, none⟩) 0 0)) #[] 0 (by rw [set_size]; exact Nat.le_refl _) (Nat.zero_le _) rfl
      rw [set_size] at this
      exact this
    have HBS := Lib.hid hbs; have HCS := Lib.hid hcs; have HO0 := Lib.hid ho0
    clear hbs hcs ho0
    rcases hr2 with ⟨rfl, hT0, rfl⟩ | ⟨o2, rfl, hlt2, hc2, hc2m, hcl2⟩
    · have ht0 : t = 0 := by rw [HT.out, hT0]; rfl
      subst ht0
      have HT0 := Lib.hid hT0
      clear hT0
      go_enter Try.func10, Try.ntmps10
      go_wp2_with (first | (at_builtin; refine wpList_append_own_none rfl _ _ 22 rfl w.heap.size 3 i0 1 Try.underlying22 hi _ 0 [] rfl HO0.out rfl ?_) | (at_builtin; refine wpList_append_lies _ rfl _ _ 22 rfl w.heap.size 3 i0 (.int .i64 0) 1 8 Try.underlying22 hi hz0 hz1 hz2 rfl (by decide) _ 0 [] rfl (HO0.out.alloc _) ⟨w.heap.size + 1, 0, none⟩ 1 1 [.int .i64 f] rfl rfl ?c1 ?c2 ?c3 ?c4 ?c5 ?c6 (w.heap.size + 1 + 1) ?c7 ?_))
      case c1 =>
        have := cell_one_new ((w.setCell ⟨X, 0, none⟩ (.slice (some ⟨Y1, off, none⟩) 0 0)).alloc (.cells #[] 3)) (.int .i64 f) 3
        simpa [set_size] using this
      case c2 => exact ints_one (l := [f])
      case c3 => omega
      case c4 => unfold maxLen; omega
      case c5 => omega
      case c6 => simp [set_size]; try omega
      case c7 => simp [set_size]
      intro g c3 w3 hown hgr hat hlt3
      have hc3 : Chg (fun k => k = X) w w3 := (((HCS.out.thenAlloc _).thenAlloc _)).thenGrown hgr (fun k hk => by injection hk with hk; have hk : w.heap.size = k := hk; exact .inr (by omega))
      have hown : w3.ownsRow w.heap.size 3 1 (.slice (some ⟨g, 0, none⟩) (0 + 1) c3) (0 + 1) ((T ++ [f]).map (Value.int .i64)) := by rw [HT0.out]; exact hown
      have hb3 : Blk w3 X [(.slice (some ⟨Y1, off, none⟩) 0 0), .slice none 0 0] 38 := ((HBS.out.alloc _).alloc _).chg (Chg.grown (F := fun k => k = w.heap.size) hgr (fun k hk _ => by injection hk with hk; exact hk.symm)) (fun e => by have e : X = w.heap.size := e; omega)
      have d1 := hb3.cell 1
      replace d1 : w3.cell? ⟨X, 1, none⟩ = some (.slice none 0 0) := d1
      have f1 := hb3.free 1
      have HOWN := Lib.hid hown; have HC3 := Lib.hid hc3; have HB3 := Lib.hid hb3
      clear hown hgr hc3 hb3 hat
      go_wp2
      go_ret2
      have hc4 := Chg.setCell (F := fun k => k = X) w3 ⟨X, 1, none⟩ (.slice (some ⟨g, 0, none⟩) (0 + 1) c3) rfl
      have hb4 := HB3.out.set 1 (.slice (some ⟨g, 0, none⟩) (0 + 1) c3)
      obtain ⟨A', Y', c', hv, hr, hob⟩ := own_rdi HOWN.out
      injection hv with e1 _ e2
      subst e1 e2
      have hY : Y' = g := ((hob g).1 rfl).2
      subst hY
      have hgw : w.heap.size ≤ Y' := own_from HOWN.out Y' rfl
      have el : (T ++ [f]).length = 0 + 1 := by rw [List.length_append, ← HT.out]; rfl
      have hn3 : Y' ≠ X := by omega
      refine ⟨rfl, ⟨FpR X (some ⟨Y1, off, none⟩) (some ⟨Y', 0, none⟩) Y1 Y', ⟨_, _, _, _, _, _, ⟨?_, (HRD.out.chg HC3.out (fun _ => hn1)).chg hc4 (fun _ => hn1), hr.chg hc4 (fun _ => hn3), fun _ => hn1, fun _ => hn3⟩, rfl⟩, ?_⟩, HC3.out.trans hc4⟩
      · rw [el, ← HL.out]; exact hb4
      · rintro k (rfl | ⟨_, rfl⟩ | ⟨_, rfl⟩)
        · exact .inl (.inl rfl)
        · exact .inl (.inr (.inl ⟨by simp, rfl⟩))
        · exact .inr hgw
    · rw [← HT.out] at hc2
      unfold maxLen at hc2m
      have hla : ∀ o, ∀ i (h : i < T.length), ((w.setCell ⟨X, 0, none⟩ (.slice (some ⟨Y1, off, none⟩) 0 0)).alloc o).cell? ⟨Y2, o2 + i, none⟩ = some (.int .i64 T[i]) := fun o i hi => by
        have hne : Y2 ≠ X := HN2.out (by simp)
        have h1 := World.cell?_of_block (w := w.setCell ⟨X, 0, none⟩ (.slice (some ⟨Y1, off, none⟩) 0 0)) (a := ⟨Y2, o2 + i, none⟩) (Below.heap_alloc _ o _ (by rw [set_size]; exact hlt2))
        rw [h1, cell_other w _ _ _ hne]
        exact hcl2 i hi
      have HLA := Lib.hid hla; have HCL2 := Lib.hid hcl2
      clear hla hcl2
      go_enter Try.func10, Try.ntmps10
      go_wp2_with (at_builtin; refine wpList_append_own _ rfl _ _ 22 rfl w.heap.size 3 i0 (.int .i64 0) 1 8 Try.underlying22 hi hz0 hz1 hz2 rfl (by decide) _ 0 [] rfl HO0.out ⟨Y2, o2, none⟩ t c2 (T.map (Value.int .i64)) rfl (by rw [List.length_map, Nat.mul_one]; exact HT.out.symm) ?c1 ?c2 ?c3 ?c4 ?c5 ?_)
      case c1 => exact Rdi.src (c := c2) (HLA.out _)
      case c2 => exact ints_one
      case c3 => unfold maxLen; omega
      case c4 => omega
      case c5 => simp [set_size]; try omega
      intro v1 w1 hown1 hgr1 _
      have hc1' : Chg (fun k => k = X) w w1 := (HCS.out.thenAlloc _).thenGrown hgr1 (fun k hk => by injection hk with hk; have hk : w.heap.size = k := hk; exact .inr (by omega))
      have hb1 : Blk w1 X [(.slice (some ⟨Y1, off, none⟩) 0 0), .slice (some ⟨Y2, o2, none⟩) t c2] 38 := (HBS.out.alloc _).chg (Chg.grown (F := fun k => k = w.heap.size) hgr1 (fun k hk _ => by injection hk with hk; exact hk.symm)) (fun e => by have e : X = w.heap.size := e; omega)
      have hs1 := hc1'.size
      have hown1 : w1.ownsRow w.heap.size 3 1 v1 t (T.map (Value.int .i64)) := by simpa using hown1
      have HO1 := Lib.hid hown1; have HC1 := Lib.hid hc1'; have HB1 := Lib.hid hb1
      clear hown1 hgr1 hc1' hb1
      go_wp2_with (at_builtin; refine wpList_append_lies _ rfl _ _ 22 rfl w.heap.size 3 i0 (.int .i64 0) 1 8 Try.underlying22 hi hz0 hz1 hz2 rfl (by decide) _ t (T.map (Value.int .i64)) rfl (HO1.out.alloc _) ⟨w1.heap.size, 0, none⟩ 1 1 [.int .i64 f] rfl rfl ?c1 ?c2 ?c3 ?c4 ?c5 ?c6 (w1.heap.size + 1) ?c7 ?_)
      case c1 => exact cell_one_new _ _ _
      case c2 => exact ints_one (l := [f])
      case c3 => omega
      case c4 => unfold maxLen; omega
      case c5 => omega
      case c6 => simp; try omega
      case c7 => simp
      intro g c3 w3 hown hgr hat hlt3
      have hc3 : Chg (fun k => k = X) w w3 := (HC1.out.thenAlloc _).thenGrown hgr (fun k hk => .inr (own_from HO1.out k hk))
      have hown : w3.ownsRow w.heap.size 3 1 (.slice (some ⟨g, 0, none⟩) (t + 1) c3) (t + 1) ((T ++ [f]).map (Value.int .i64)) := by rw [List.map_append]; exact hown
      have hb3 : Blk w3 X [(.slice (some ⟨Y1, off, none⟩) 0 0), .slice (some ⟨Y2, o2, none⟩) t c2] 38 := (HB1.out.alloc _).chg (Chg.grown (F := fun k => w.heap.size ≤ k) hgr (fun k hk _ => own_from HO1.out k hk)) (fun e => by have e : w.heap.size ≤ X := e; omega)
      have d1 := hb3.cell 1
      replace d1 : w3.cell? ⟨X, 1, none⟩ = some (.slice (some ⟨Y2, o2, none⟩) t c2) := d1
      have f1 := hb3.free 1
      have HOWN := Lib.hid hown; have HC3 := Lib.hid hc3; have HB3 := Lib.hid hb3
      clear hown hgr hc3 hb3 hat
      go_wp2
      go_ret2
      have hc4 := Chg.setCell (F := fun k => k = X) w3 ⟨X, 1, none⟩ (.slice (some ⟨g, 0, none⟩) (t + 1) c3) rfl
      have hb4 := HB3.out.set 1 (.slice (some ⟨g, 0, none⟩) (t + 1) c3)
      obtain ⟨A', Y', c', hv, hr, hob⟩ := own_rdi HOWN.out
      injection hv with e1 _ e2
      subst e1 e2
      have hY : Y' = g := ((hob g).1 rfl).2
      subst hY
      have hgw : w.heap.size ≤ Y' := own_from HOWN.out Y' rfl
      have el : (T ++ [f]).length = t + 1 := by rw [List.length_append, ← HT.out]; rfl
      have hn3 : Y' ≠ X := by omega
      refine ⟨rfl, ⟨FpR X (some ⟨Y1, off, none⟩) (some ⟨Y', 0, none⟩) Y1 Y', ⟨_, _, _, _, _, _, ⟨?_, (HRD.out.chg HC3.out (fun _ => hn1)).chg hc4 (fun _ => hn1), hr.chg hc4 (fun _ => hn3), fun _ => hn1, fun _ => hn3⟩, rfl⟩, ?_⟩, HC3.out.trans hc4⟩
      · rw [el, ← HL.out]; exact hb4
      · rintro k (rfl | ⟨_, rfl⟩ | ⟨_, rfl⟩)
        · exact .inl (.inl rfl)
        · exact .inl (.inr (.inl ⟨by simp, rfl⟩))
        · exact .inr hgw
  · have hcap : 1 < c1 := by omega
    have hrd : Rdi w (some ⟨Y1, off + 1, none⟩) Y1 (c1 - 1) L := .inr ⟨off + 1, rfl, hlt, by rw [← HL.out]; omega, by unfold maxLen; omega, HREST.out⟩
    have HRD := Lib.hid hrd
    clear hrd
    have hbs := HB.out.set 0 (.slice (some ⟨Y1, off + 1, none⟩) l (c1 - 1))
    have hbs : Blk (w.setCell ⟨X, 0, none⟩ (.slice (some ⟨Y1, off + 1, none⟩) l (c1 - 1))) X [(.slice (some ⟨Y1, off + 1, none⟩) l (c1 - 1)), .slice A2 t c2] 38 := hbs
    have x1 : ∀ o, ((w.setCell ⟨X, 0, none⟩ (.slice (some ⟨Y1, off + 1, none⟩) l (c1 - 1))).alloc o).cell? ⟨X, 1, none⟩ = some (.slice A2 t c2) := fun o => (hbs.alloc o).cell 1
    have hcs := Chg.setCell (F := fun k => k = X) w ⟨X, 0, none⟩ (.slice (some ⟨Y1, off + 1, none⟩) l (c1 - 1)) rfl
    have ho0 : ((w.setCell ⟨X, 0, none⟩ (.slice (some ⟨Y1, off + 1, none⟩) l (c1 - 1))).alloc (.cells #[] 3)).ownsRow w.heap.size 3 1 (.slice (some ⟨w.heap.size, 0, none⟩) 0 0) 0 [] := by
      have := World.ownsRow_made (base := w.heap.size) (e := 3) (size := 1) (w.setCell ⟨X, 0, none⟩ (.slice (some ⟨Y1, off + 1, none⟩) l (c1 - 1))) #[] 0 (by rw [set_size]; exact Nat.le_refl _) (Nat.zero_le _) rfl
      rw [set_size] at this
      exact this
    have HBS := Lib.hid hbs; have HCS := Lib.hid hcs; have HO0 := Lib.hid ho0
    clear hbs hcs ho0
    rcases hr2 with ⟨rfl, hT0, rfl⟩ | ⟨o2, rfl, hlt2, hc2, hc2m, hcl2⟩
    · have ht0 : t = 0 := by rw [HT.out, hT0]; rfl
      subst ht0
      have HT0 := Lib.hid hT0
      clear hT0
      go_enter Try.func10, Try.ntmps10
      go_wp2_with (first | (at_builtin; refine wpList_append_own_none rfl _ _ 22 rfl w.heap.size 3 i0 1 Try.underlying22 hi _ 0 [] rfl HO0.out rfl ?_) | (at_builtin; refine wpList_append_lies _ rfl _ _ 22 rfl w.heap.size 3 i0 (.int .i64 0) 1 8 Try.underlying22 hi hz0 hz1 hz2 rfl (by decide) _ 0 [] rfl (HO0.out.alloc _) ⟨w.heap.size + 1, 0, none⟩ 1 1 [.int .i64 f] rfl rfl ?c1 ?c2 ?c3 ?c4 ?c5 ?c6 (w.heap.size + 1 + 1) ?c7 ?_))
      case c1 =>
        have := cell_one_new ((w.setCell ⟨X, 0, none⟩ (.slice (some ⟨Y1, off + 1, none⟩) l (c1 - 1))).alloc (.cells #[] 3)) (.int .i64 f) 3
        simpa [set_size] using this
      case c2 => exact ints_one (l := [f])
      case c3 => omega
      case c4 => unfold maxLen; omega
      case c5 => omega
      case c6 => simp [set_size]; try omega
      case c7 => simp [set_size]
      intro g c3 w3 hown hgr hat hlt3
      have hc3 : Chg (fun k => k = X) w w3 := (((HCS.out.thenAlloc _).thenAlloc _)).thenGrown hgr (fun k hk => by injection hk with hk; have hk : w.heap.size = k := hk; exact .inr (by omega))
      have hown : w3.ownsRow w.heap.size 3 1 (.slice (some ⟨g, 0, none⟩) (0 + 1) c3) (0 + 1) ((T ++ [f]).map (Value.int .i64)) := by rw [HT0.out]; exact hown
      have hb3 : Blk w3 X [(.slice (some ⟨Y1, off + 1, none⟩) l (c1 - 1)), .slice none 0 0] 38 := ((HBS.out.alloc _).alloc _).chg (Chg.grown (F := fun k => k = w.heap.size) hgr (fun k hk _ => by injection hk with hk; exact hk.symm)) (fun e => by have e : X = w.heap.size := e; omega)
      have d1 := hb3.cell 1
      replace d1 : w3.cell? ⟨X, 1, none⟩ = some (.slice none 0 0) := d1
      have f1 := hb3.free 1
      have HOWN := Lib.hid hown; have HC3 := Lib.hid hc3; have HB3 := Lib.hid hb3
      clear hown hgr hc3 hb3 hat
      go_wp2
      go_ret2
      have hc4 := Chg.setCell (F := fun k => k = X) w3 ⟨X, 1, none⟩ (.slice (some ⟨g, 0, none⟩) (0 + 1) c3) rfl
      have hb4 := HB3.out.set 1 (.slice (some ⟨g, 0, none⟩) (0 + 1) c3)
      obtain ⟨A', Y', c', hv, hr, hob⟩ := own_rdi HOWN.out
      injection hv with e1 _ e2
      subst e1 e2
      have hY : Y' = g := ((hob g).1 rfl).2
      subst hY
      have hgw : w.heap.size ≤ Y' := own_from HOWN.out Y' rfl
      have el : (T ++ [f]).length = 0 + 1 := by rw [List.length_append, ← HT.out]; rfl
      have hn3 : Y' ≠ X := by omega
      refine ⟨rfl, ⟨FpR X (some ⟨Y1, off + 1, none⟩) (some ⟨Y', 0, none⟩) Y1 Y', ⟨_, _, _, _, _, _, ⟨?_, (HRD.out.chg HC3.out (fun _ => hn1)).chg hc4 (fun _ => hn1), hr.chg hc4 (fun _ => hn3), fun _ => hn1, fun _ => hn3⟩, rfl⟩, ?_⟩, HC3.out.trans hc4⟩
      · rw [el, ← HL.out]; exact hb4
      · rintro k (rfl | ⟨_, rfl⟩ | ⟨_, rfl⟩)
        · exact .inl (.inl rfl)
        · exact .inl (.inr (.inl ⟨by simp, rfl⟩))
        · exact .inr hgw
    · rw [← HT.out] at hc2
      unfold maxLen at hc2m
      have hla : ∀ o, ∀ i (h : i < T.length), ((w.setCell ⟨X, 0, none⟩ (.slice (some ⟨Y1, off + 1, none⟩) l (c1 - 1))).alloc o).cell? ⟨Y2, o2 + i, none⟩ = some (.int .i64 T[i]) := fun o i hi => by
        have hne : Y2 ≠ X := HN2.out (by simp)
        have h1 := World.cell?_of_block (w := w.setCell ⟨X, 0, none⟩ (.slice (some ⟨Y1, off + 1, none⟩) l (c1 - 1))) (a := ⟨Y2, o2 + i, none⟩) (Below.heap_alloc _ o _ (by rw [set_size]; exact hlt2))
        rw [h1, cell_other w _ _ _ hne]
        exact hcl2 i hi
      have HLA := Lib.hid hla; have HCL2 := Lib.hid hcl2
      clear hla hcl2
      go_enter Try.func10, Try.ntmps10
      go_wp2_with (at_builtin; refine wpList_append_own _ rfl _ _ 22 rfl w.heap.size 3 i0 (.int .i64 0) 1 8 Try.underlying22 hi hz0 hz1 hz2 rfl (by decide) _ 0 [] rfl HO0.out ⟨Y2, o2, none⟩ t c2 (T.map (Value.int .i64)) rfl (by rw [List.length_map, Nat.mul_one]; exact HT.out.symm) ?c1 ?c2 ?c3 ?c4 ?c5 ?_)
      case c1 => exact Rdi.src (c := c2) (HLA.out _)
      case c2 => exact ints_one
      case c3 => unfold maxLen; omega
      case c4 => omega
      case c5 => simp [set_size]; try omega
      intro v1 w1 hown1 hgr1 _
      have hc1' : Chg (fun k => k = X) w w1 := (HCS.out.thenAlloc _).thenGrown hgr1 (fun k hk => by injection hk with hk; have hk : w.heap.size = k := hk; exact .inr (by omega))
      have hb1 : Blk w1 X [(.slice (some ⟨Y1, off + 1, none⟩) l (c1 - 1)), .slice (some ⟨Y2, o2, none⟩) t c2] 38 := (HBS.out.alloc _).chg (Chg.grown (F := fun k => k = w.heap.size) hgr1 (fun k hk _ => by injection hk with hk; exact hk.symm)) (fun e => by have e : X = w.heap.size := e; omega)
      have hs1 := hc1'.size
      have hown1 : w1.ownsRow w.heap.size 3 1 v1 t (T.map (Value.int .i64)) := by simpa using hown1
      have HO1 := Lib.hid hown1; have HC1 := Lib.hid hc1'; have HB1 := Lib.hid hb1
      clear hown1 hgr1 hc1' hb1
      go_wp2_with (at_builtin; refine wpList_append_lies _ rfl _ _ 22 rfl w.heap.size 3 i0 (.int .i64 0) 1 8 Try.underlying22 hi hz0 hz1 hz2 rfl (by decide) _ t (T.map (Value.int .i64)) rfl (HO1.out.alloc _) ⟨w1.heap.size, 0, none⟩ 1 1 [.int .i64 f] rfl rfl ?c1 ?c2 ?c3 ?c4 ?c5 ?c6 (w1.heap.size + 1) ?c7 ?_)
      case c1 => exact cell_one_new _ _ _
      case c2 => exact ints_one (l := [f])
      case c3 => omega
      case c4 => unfold maxLen; omega
      case c5 => omega
      case c6 => simp; try omega
      case c7 => simp
      intro g c3 w3 hown hgr hat hlt3
      have hc3 : Chg (fun k => k = X) w w3 := (HC1.out.thenAlloc _).thenGrown hgr (fun k hk => .inr (own_from HO1.out k hk))
      have hown : w3.ownsRow w.heap.size 3 1 (.slice (some ⟨g, 0, none⟩) (t + 1) c3) (t + 1) ((T ++ [f]).map (Value.int .i64)) := by rw [List.map_append]; exact hown
      have hb3 : Blk w3 X [(.slice (some ⟨Y1, off + 1, none⟩) l (c1 - 1)), .slice (some ⟨Y2, o2, none⟩) t c2] 38 := (HB1.out.alloc _).chg (Chg.grown (F := fun k => w.heap.size ≤ k) hgr (fun k hk _ => own_from HO1.out k hk)) (fun e => by have e : w.heap.size ≤ X := e; omega)
      have d1 := hb3.cell 1
      replace d1 : w3.cell? ⟨X, 1, none⟩ = some (.slice (some ⟨Y2, o2, none⟩) t c2) := d1
      have f1 := hb3.free 1
      have HOWN := Lib.hid hown; have HC3 := Lib.hid hc3; have HB3 := Lib.hid hb3
      clear hown hgr hc3 hb3 hat
      go_wp2
      go_ret2
      have hc4 := Chg.setCell (F := fun k => k = X) w3 ⟨X, 1, none⟩ (.slice (some ⟨g, 0, none⟩) (t + 1) c3) rfl
      have hb4 := HB3.out.set 1 (.slice (some ⟨g, 0, none⟩) (t + 1) c3)
      obtain ⟨A', Y', c', hv, hr, hob⟩ := own_rdi HOWN.out
      injection hv with e1 _ e2
      subst e1 e2
      have hY : Y' = g := ((hob g).1 rfl).2
      subst hY
      have hgw : w.heap.size ≤ Y' := own_from HOWN.out Y' rfl
      have el : (T ++ [f]).length = t + 1 := by rw [List.length_append, ← HT.out]; rfl
      have hn3 : Y' ≠ X := by omega
      refine ⟨rfl, ⟨FpR X (some ⟨Y1, off + 1, none⟩) (some ⟨Y', 0, none⟩) Y1 Y', ⟨_, _, _, _, _, _, ⟨?_, (HRD.out.chg HC3.out (fun _ => hn1)).chg hc4 (fun _ => hn1), hr.chg hc4 (fun _ => hn3), fun _ => hn1, fun _ => hn3⟩, rfl⟩, ?_⟩, HC3.out.trans hc4⟩
      · rw [el, ← HL.out]; exact hb4
      · rintro k (rfl | ⟨_, rfl⟩ | ⟨_, rfl⟩)
        · exact .inl (.inl rfl)
        · exact .inl (.inr (.inl ⟨by simp, rfl⟩))
        · exact .inr hgw
theorem without_snoc_no {f : Int} {T : List Int} {k : Nat} (hk : k < T.length) (e : T[k] = f) : without f (T.take (k + 1)) = without f (T.take k) := by
  unfold without
  rw [List.take_succ_eq_append_getElem hk, List.filter_append, List.filter_cons_of_neg (by simpa using e)]
  simp
theorem without_snoc_yes {f : Int} {T : List Int} {k : Nat} (hk : k < T.length) (e : ¬ T[k] = f) : without f (T.take (k + 1)) = without f (T.take k) ++ [T[k]] := by
  unfold without
  rw [List.take_succ_eq_append_getElem hk, List.filter_append, List.filter_cons_of_pos (by simpa using e)]
  simp
theorem without_le (f : Int) (T : List Int) : (without f T).length ≤ T.length := List.length_filter_le _ _
set_option maxHeartbeats 2000000 in
theorem rgive_yes {G : Nat → Prop} {L T : List Int} (X : Nat) (f : Int) (w : World) (h : RefL w X G L T) (hL : L.length ≤ 1048576) (ht : T.length ≤ 1048576) (hf : f ∈ T) :
    Calls Try.prog 12 #[.pointer (some ⟨X, 0, none⟩), .int .i64 f] w fun e w' => e = .returned (.int .i64 0) ∧ (∃ G', RefL w' X G' (f :: L) (without f T) ∧ ExtR w G G') ∧ Chg (fun k => k = X) w w' := by
  obtain ⟨i0, hi, hz0, hz1, hz2⟩ := info_parts infoI
  have his := ris_any X f w h ht
  rw [show decide (f ∈ T) = true from decide_eq_true hf] at his
  obtain ⟨A1, A2, Y1, Y2, c1, c2, h, rfl⟩ := h
  obtain ⟨l, hl⟩ : ∃ l, l = L.length := ⟨_, rfl⟩
  obtain ⟨n, hn⟩ : ∃ n, n = T.length := ⟨_, rfl⟩
  have hb : Blk w X [.slice A1 l c1, .slice A2 n c2] 38 := by rw [hl, hn]; exact h.blk
  have x1 : w.cell? ⟨X, 1, none⟩ = some (.slice A2 n c2) := hb.cell 1
  have hXl := hb.lt
  have hle := h.r2.le
  rw [← hn] at hle ht
  rw [← hl] at hL
  obtain ⟨hc1, hc2⟩ := hle
  unfold maxLen at hc2
  have hr1 := h.r1
  have hn1 := h.n1
  have HR := Lib.hid h.r2; have HN := Lib.hid hn; have HL := Lib.hid hl; have HN1 := Lib.hid hn1; have HB := Lib.hid hb; have HR1 := Lib.hid hr1; have HF := Lib.hid hf
  clear h hn hl hn1 hb hr1 hf
  go_enter Try.func12, Try.ntmps12
  go_wp2_with fail
  refine his.mono ?_
  rintro e w' ⟨rfl, rfl⟩
  go_wp2
  go_loopw [5, 17] (fun v i wr => ∃ (k m : Nat), k ≤ n ∧ m ≤ n ∧ m = (without f (T.take k)).length ∧ i = .int .i64 k ∧ wr.ownsRow w.heap.size 3 1 v m ((without f (T.take k)).map (Value.int .i64)) ∧ Chg no w wr) (fun v i _ => n - (intOf i).toNat)
  case atStart => exact ⟨0, 0, Nat.zero_le _, Nat.zero_le _, by simp [without], rfl, by simp [without]; exact World.ownsRow_nil _ _ _ _, Chg.refl _ _⟩
  case round =>
    obtain ⟨k, m, hk, hm, hml, rfl, ho, hc⟩ := hrel
    obtain ⟨A, c, rfl⟩ := own_slice ho
    have hsz := hc.size
    by_cases hlt : k < n
    · have hkl : k < T.length := by rw [← HN.out]; exact hlt
      rcases HR.out with ⟨_, h, _⟩ | ⟨off, rfl, hY2, _, _, hcl⟩
      · rw [h] at hkl; exact absurd hkl (Nat.not_lt_zero _)
      have e1 := hcl k hkl
      rw [← World.cell?_of_block (w := w) (a := ⟨Y2, off + k, none⟩) (hc.block Y2 hY2 (fun h => h))] at e1
      obtain ⟨x, hx⟩ : ∃ x, x = T[k] := ⟨_, rfl⟩
      rw [← hx] at e1
      have HX := Lib.hid hx; have HO := Lib.hid ho; have HC := Lib.hid hc; have HML := Lib.hid hml
      clear hcl hx ho hc hml
      by_cases hxf : x = f
      · subst hxf
        go_wp2
        go_roundw
        case rel =>
          refine ⟨k + 1, m, hlt, hm, ?_, by go_num, ?_, HC.out⟩
          · rw [without_snoc_no hkl HX.out.symm]; exact HML.out
          · rw [without_snoc_no hkl HX.out.symm]; exact HO.out
        case measure => simp [intOf]; omega
      · go_wp2_with (at_builtin; refine wpList_append_lies _ rfl _ _ 22 rfl w.heap.size 3 i0 (.int .i64 0) 1 8 Try.underlying22 hi hz0 hz1 hz2 rfl (by decide) (.slice A m c) m ((without f (T.take k)).map (Value.int .i64)) rfl (HO.out.alloc _) ⟨wr.heap.size, 0, none⟩ 1 1 [.int .i64 x] rfl rfl ?c1 ?c2 ?c3 ?c4 ?c5 ?c6 (wr.heap.size + 1) ?c7 ?_)
        case c1 => exact cell_one_new _ _ _
        case c2 => exact ints_one (l := [x])
        case c3 => omega
        case c4 => unfold maxLen; omega
        case c5 => omega
        case c6 => simp; omega
        case c7 => simp
        intro g c3 w3 hown hgr hat hlt3
        have hcA : Chg no w w3 := (HC.out.thenAlloc _).thenGrown hgr (fun j hj => .inr (own_from HO.out j hj))
        have hown : w3.ownsRow w.heap.size 3 1 (.slice (some ⟨g, 0, none⟩) (m + 1) c3) (m + 1) ((without f (T.take (k + 1))).map (Value.int .i64)) := by
          rw [without_snoc_yes hkl (by rw [← HX.out]; exact hxf), List.map_append, ← HX.out]; exact hown
        have hml2 : m + 1 = (without f (T.take (k + 1))).length := by
          rw [without_snoc_yes hkl (by rw [← HX.out]; exact hxf), List.length_append, ← HML.out]; rfl
        have hmn : m + 1 ≤ n := by
          have := without_le f (T.take (k + 1))
          rw [List.length_take] at this
          omega
        have HOWN := Lib.hid hown; have HCA := Lib.hid hcA; have HML2 := Lib.hid hml2
        clear hown hgr hcA hat hml2
        go_wp2
        go_roundw
        case rel => exact ⟨k + 1, m + 1, hlt, hmn, HML2.out, by go_num, HOWN.out, HCA.out⟩
        case measure => simp [intOf]; omega
    · obtain rfl : k = n := by omega
      rw [HN.out, List.take_of_length_le (Nat.le_refl _)] at ho hml
      have hb3 := HB.out.chg hc (fun h => h)
      have x1 : wr.cell? ⟨X, 1, none⟩ = some (.slice A2 k c2) := hb3.cell 1
      have f1 := hb3.free 1
      have hb4 := hb3.set 1 (.slice A m c)
      replace hb4 : Blk (wr.setCell ⟨X, 1, none⟩ (.slice A m c)) X [.slice A1 l c1, .slice A m c] 38 := hb4
      have hr1 := HR1.out.chg hc (fun _ h => h)
      have x0 : ∀ o, ((wr.setCell ⟨X, 1, none⟩ (.slice A m c)).alloc o).cell? ⟨X, 0, none⟩ = some (.slice A1 l c1) := fun o => (hb4.alloc o).cell 0
      have f0' : ((wr.setCell ⟨X, 1, none⟩ (.slice A m c)).alloc (.cells #[.int .i64 f] 3)).frozen? ⟨X, 0, none⟩ = false := (hb4.alloc _).free 0
      have hcs := (hc.of_no).trans (Chg.setCell (F := fun k => k = X) wr ⟨X, 1, none⟩ (.slice A m c) rfl)
      have hos := own_chg ho (Chg.setCell (F := fun k => k = X) wr ⟨X, 1, none⟩ (.slice A m c) rfl) (fun j hj e => by have := own_from ho j hj; have e : j = X := e; omega)
      have hlit : ((wr.setCell ⟨X, 1, none⟩ (.slice A m c)).alloc (.cells #[.int .i64 f] 3)).ownsRow w.heap.size 3 1 (.slice (some ⟨wr.heap.size, 0, none⟩) 1 1) 1 [.int .i64 f] := by
        have := blk_own (B := w.heap.size) (n := 1) (Blk.new (wr.setCell ⟨X, 1, none⟩ (.slice A m c)) [.int .i64 f] 3) (by rw [set_size]; exact hsz) (by unfold maxLen; omega) rfl
        rw [set_size] at this
        exact this
      have HO := Lib.hid hos; have HC := Lib.hid hcs; have HML := Lib.hid hml; have HB4 := Lib.hid hb4; have HLIT := Lib.hid hlit
      clear ho hc hml hb3 hb4 hcs hos hlit
      rcases hr1 with ⟨rfl, hL0, rfl⟩ | ⟨o2, rfl, hlt2, hd1, hd2, hcl2⟩
      · have hl0 : l = 0 := by rw [HL.out, hL0]; rfl
        subst hl0
        have HL0 := Lib.hid hL0
        clear hL0
        go_wp2_with (at_builtin; refine wpList_append_own_none rfl _ _ 22 rfl w.heap.size 3 i0 1 Try.underlying22 hi _ 1 [.int .i64 f] rfl HLIT.out rfl ?_)
        go_ret
        have hr0 : ((wr.setCell ⟨X, 1, none⟩ (.slice A m c)).alloc (.cells #[.int .i64 f] 3)).ownsRow w.heap.size 3 1 (.slice (some ⟨wr.heap.size, 0, none⟩) (0 + 1) 1) (0 + 1) ((f :: L).map (Value.int .i64)) := by rw [HL0.out]; exact HLIT.out
        have hc5 := Chg.setCell (F := fun k => k = X) ((wr.setCell ⟨X, 1, none⟩ (.slice A m c)).alloc (.cells #[.int .i64 f] 3)) ⟨X, 0, none⟩ (.slice (some ⟨wr.heap.size, 0, none⟩) 1 1) rfl
        have hb5 := (HB4.out.alloc (.cells #[.int .i64 f] 3)).set 0 (.slice (some ⟨wr.heap.size, 0, none⟩) 1 1)
        have hoT := HO.out.alloc (.cells #[.int .i64 f] 3)
        have hcAll := (HC.out.thenAlloc (.cells #[.int .i64 f] 3)).trans hc5
        obtain ⟨A5, Y5, c5, hv5, hr5, hob5⟩ := own_rdi hr0
        injection hv5 with e1 _ e2
        subst e1 e2
        obtain ⟨A6, Y6, c6, hv6, hr6, hob6⟩ := own_rdi hoT
        injection hv6 with e1 _ e2
        subst e1 e2
        have hn5 : ∀ (hA : (some (⟨wr.heap.size, 0, none⟩ : Addr)) ≠ none), w.heap.size ≤ Y5 := fun hA => own_from hr0 Y5 ((hob5 Y5).2 ⟨hA, rfl⟩)
        have hn6 : ∀ (hA : A ≠ none), w.heap.size ≤ Y6 := fun hA => own_from hoT Y6 ((hob6 Y6).2 ⟨hA, rfl⟩)
        have el : (f :: L).length = 0 + 1 := by rw [List.length_cons, ← HL.out]
        refine ⟨rfl, ⟨FpR X _ A Y5 Y6, ⟨_, A, _, _, _, _, ⟨?_, hr5.chg hc5 (fun hA e => by have := hn5 hA; have e : Y5 = X := e; omega), hr6.chg hc5 (fun hA e => by have := hn6 hA; have e : Y6 = X := e; omega), fun hA => by have := hn5 hA; omega, fun hA => by have := hn6 hA; omega⟩, rfl⟩, ?_⟩, hcAll⟩
        · rw [el, ← HML.out]; exact hb5
        · rintro j (rfl | ⟨hA, rfl⟩ | ⟨hA, rfl⟩)
          · exact .inl (.inl rfl)
          · exact .inr (hn5 hA)
          · exact .inr (hn6 hA)
      · have hla : ∀ i (h : i < L.length), ((wr.setCell ⟨X, 1, none⟩ (.slice A m c)).alloc (.cells #[.int .i64 f] 3)).cell? ⟨Y1, o2 + i, none⟩ = some (.int .i64 L[i]) := fun i hi => by
          have hne : Y1 ≠ X := HN1.out (by simp)
          have h1 := World.cell?_of_block (w := wr.setCell ⟨X, 1, none⟩ (.slice A m c)) (a := ⟨Y1, o2 + i, none⟩) (Below.heap_alloc _ (.cells #[.int .i64 f] 3) _ (by rw [set_size]; exact hlt2))
          rw [h1, cell_other wr _ _ _ hne]
          exact hcl2 i hi
        have HLA := Lib.hid hla; have HD1 := Lib.hid hd1
        clear hla hcl2 hd1
        unfold maxLen at hd2
        go_wp2_with (at_builtin; refine wpList_append_own _ rfl _ _ 22 rfl w.heap.size 3 i0 (.int .i64 0) 1 8 Try.underlying22 hi hz0 hz1 hz2 rfl (by decide) _ 1 [.int .i64 f] rfl HLIT.out ⟨Y1, o2, none⟩ l c1 (L.map (Value.int .i64)) rfl (by rw [List.length_map, Nat.mul_one]; exact HL.out.symm) ?c1 ?c2 ?c3 ?c4 ?c5 ?_)
        case c1 => exact Rdi.src (c := c1) HLA.out
        case c2 => exact ints_one
        case c3 => unfold maxLen; omega
        case c4 => omega
        case c5 => simp [set_size]; try omega
        intro v1 w1 hown1 hgr1 _
        have hcR : Chg (fun k => k = wr.heap.size) ((wr.setCell ⟨X, 1, none⟩ (.slice A m c)).alloc (.cells #[.int .i64 f] 3)) w1 := Chg.grown hgr1 (fun k hk _ => by injection hk with hk; exact hk.symm)
        have hb1 := (HB4.out.alloc (.cells #[.int .i64 f] 3)).chg hcR (fun e => by have e : X = wr.heap.size := e; omega)
        have hcW : Chg (fun k => k = X) w w1 := (HC.out.thenAlloc _).thenGrown hgr1 (fun k hk => by injection hk with hk; have hk : wr.heap.size = k := hk; exact .inr (by omega))
        have hoT := own_chg (HO.out.alloc (.cells #[.int .i64 f] 3)) hcR (fun j hj e => by have := (HO.out.lt j hj).2; rw [set_size] at this; have e : j = wr.heap.size := e; omega)
        have d0 : w1.cell? ⟨X, 0, none⟩ = some (.slice (some ⟨Y1, o2, none⟩) l c1) := hb1.cell 0
        have f0 := hb1.free 0
        obtain ⟨A9, c9, rfl⟩ := own_slice hown1
        have hr0 : w1.ownsRow w.heap.size 3 1 (.slice A9 (l + 1) c9) (l + 1) ((f :: L).map (Value.int .i64)) := by
          have e := hown1
          rw [Nat.add_comm 1 l] at e
          exact e
        have H0 := Lib.hid hr0; have HT := Lib.hid hoT; have HB1 := Lib.hid hb1; have HCW := Lib.hid hcW
        clear hr0 hoT hb1 hcW hcR hown1 hgr1
        go_wp2
        go_ret
        have hr0 := H0.out
        have hoT := HT.out
        rw [Nat.add_comm 1 l]
        have hc5 := Chg.setCell (F := fun k => k = X) w1 ⟨X, 0, none⟩ (.slice A9 (l + 1) c9) rfl
        have hb5 := HB1.out.set 0 (.slice A9 (l + 1) c9)
        have hcAll := HCW.out.trans hc5
        obtain ⟨A5, Y5, c5, hv5, hr5, hob5⟩ := own_rdi hr0
        injection hv5 with e1 _ e2
        subst e1 e2
        obtain ⟨A6, Y6, c6, hv6, hr6, hob6⟩ := own_rdi hoT
        injection hv6 with e1 _ e2
        subst e1 e2
        have hn5 : ∀ (hA : A9 ≠ none), w.heap.size ≤ Y5 := fun hA => own_from hr0 Y5 ((hob5 Y5).2 ⟨hA, rfl⟩)
        have hn6 : ∀ (hA : A ≠ none), w.heap.size ≤ Y6 := fun hA => own_from hoT Y6 ((hob6 Y6).2 ⟨hA, rfl⟩)
        have el : (f :: L).length = l + 1 := by rw [List.length_cons, ← HL.out]
        refine ⟨rfl, ⟨FpR X _ A Y5 Y6, ⟨_, A, _, _, _, _, ⟨?_, hr5.chg hc5 (fun hA e => by have := hn5 hA; have e : Y5 = X := e; omega), hr6.chg hc5 (fun hA e => by have := hn6 hA; have e : Y6 = X := e; omega), fun hA => by have := hn5 hA; omega, fun hA => by have := hn6 hA; omega⟩, rfl⟩, ?_⟩, hcAll⟩
        · rw [el, ← HML.out]; exact hb5
        · rintro j (rfl | ⟨hA, rfl⟩ | ⟨hA, rfl⟩)
          · exact .inl (.inl rfl)
          · exact .inr (hn5 hA)
          · exact .inr (hn6 hA)
end Go.Proofs.Ytbfnbiadmmpaaaa
