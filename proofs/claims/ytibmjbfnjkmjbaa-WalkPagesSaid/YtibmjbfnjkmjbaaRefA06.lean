/-
  What the small functions of package runrigref06 answer and leave in memory: contracts over the translation. Each says its own conditions.
-/
import Derived.Test.YtibmjbfnjkmjbaaRb01
import Derived.Test.YtibmjbfnjkmjbaaHeap
import Derived.Test.YtibmjbfnjkmjbaaPure06
import Derived.Deep.AppendLies
import Derived.Laws.AppendOwnNone
namespace Go.Proofs.Ytibmjbfnjkmjbaa
open Go.RowKit
set_option linter.unusedVariables false
set_option linter.unusedSimpArgs false

/-- bytes by their places, as cells -/
def cellsL : List (Nat × Int) → List Value
  | [] => []
  | p :: r => .int .u64 p.1 :: .int .u8 p.2 :: cellsL r
theorem cellsL_len : ∀ L : List (Nat × Int), (cellsL L).length = L.length * 2
  | [] => rfl
  | p :: r => by rw [cellsL, List.length_cons, List.length_cons, cellsL_len r, List.length_cons]; omega
theorem cellsL_app : ∀ L M : List (Nat × Int), cellsL (L ++ M) = cellsL L ++ cellsL M
  | [], _ => rfl
  | p :: r, M => by rw [List.cons_append, cellsL, cellsL_app r, cellsL]; rfl
theorem cellsL_at : ∀ (L : List (Nat × Int)) (i : Nat) (h : i < L.length), (cellsL L)[i * 2]? = some (.int .u64 L[i].1) ∧ (cellsL L)[i * 2 + 1]? = some (.int .u8 L[i].2)
  | [], i, h => by simp at h
  | p :: r, 0, h => ⟨rfl, rfl⟩
  | p :: r, i + 1, h => by
    rw [show (i + 1) * 2 = i * 2 + 1 + 1 from by omega, cellsL]
    simp only [List.getElem?_cons_succ, List.getElem_cons_succ]
    exact cellsL_at r i (by simpa using h)
/-- the document's memory at block rm, its list -/
structure RefM (w : World) (rm fr : Nat) (v : Value) (L : List (Nat × Int)) : Prop where
  blk : Blk w rm [.int .i64 fr, v] 59
  own : w.ownsRow 0 100 2 v L.length (cellsL L)
  ne : v.ownBlock ≠ some rm
theorem own_chg {F : Nat → Prop} {w w' : World} {B e s n : Nat} {v : Value} {xs : List Value} (h : w.ownsRow B e s v n xs) (hc : Chg F w w') (hf : ∀ k, v.ownBlock = some k → ¬ F k) : w'.ownsRow B e s v n xs := by
  have hlt := h.lt
  refine ⟨h.1, ?_⟩
  rcases h.2 with h | ⟨g, cap, cur, rfl, hB, hg, h3⟩
  · exact .inl h
  · exact .inr ⟨g, cap, cur, rfl, hB, (hc.block g (hlt g rfl).2 (hf g rfl)).trans hg, h3⟩
theorem own_base {w : World} {B B' e s n : Nat} {v : Value} {xs : List Value} (h : w.ownsRow B e s v n xs) (hB : B' ≤ B) : w.ownsRow B' e s v n xs := by
  refine ⟨h.1, ?_⟩
  rcases h.2 with h | ⟨g, cap, cur, rfl, hb, h3⟩
  · exact .inl h
  · exact .inr ⟨g, cap, cur, rfl, Nat.le_trans hB hb, h3⟩
theorem RefM.chg {F : Nat → Prop} {w w' : World} {rm fr : Nat} {v : Value} {L : List (Nat × Int)} (h : RefM w rm fr v L) (hc : Chg F w w') (h1 : ¬ F rm) (h2 : ∀ k, v.ownBlock = some k → ¬ F k) : RefM w' rm fr v L :=
  ⟨h.blk.chg hc h1, own_chg h.own hc h2, h.ne⟩
/-- the list as a slice -/
theorem own_form {w : World} {B n : Nat} {v : Value} {L : List (Nat × Int)} (h : w.ownsRow B 100 2 v n (cellsL L)) (hl : L.length = n) : ∃ A cap, v = .slice A n cap ∧ n ≤ cap ∧ cap ≤ maxLen ∧
    (0 < n → ∃ g, A = some ⟨g, 0, none⟩ ∧ ∀ i (h : i < L.length), w.cell? ⟨g, i * 2, none⟩ = some (.int .u64 L[i].1) ∧ w.cell? ⟨g, i * 2 + 1, none⟩ = some (.int .u8 L[i].2)) := by
  rcases h.2 with ⟨rfl, h0⟩ | ⟨g, cap, cur, rfl, hB, hg, hn, hm, hcs, ht⟩
  · exact ⟨none, 0, by rw [h0], by omega, by unfold maxLen; omega, fun h => by omega⟩
  · refine ⟨_, cap, rfl, hn, hm, fun _ => ⟨g, rfl, fun i hi => ?_⟩⟩
    have hc := cellsL_at L i hi
    rw [← ht] at hc
    have h1 := cell_of_row w g (i * 2) cur _ _ hg
    have h2 := cell_of_row w g (i * 2 + 1) cur _ _ hg
    rw [List.getElem?_take_of_lt (by omega), List.getElem?_take_of_lt (by omega)] at hc
    exact ⟨h1.trans (by simpa using hc.1), h2.trans (by simpa using hc.2)⟩
theorem refNil {w : World} {rm fr : Nat} (h : Blk w rm [.int .i64 fr, .slice none 0 0] 59) : RefM w rm fr (.slice none 0 0) [] :=
  ⟨h, ⟨rfl, .inl ⟨rfl, rfl⟩⟩, by intro h; cases h⟩
theorem mget_any (rm fr a : Nat) (v : Value) (L : List (Nat × Int)) (w : World) (h : RefM w rm fr v L) :
    Calls Try.prog 48 #[.pointer (some ⟨rm, 0, none⟩), .int .u64 a] w fun e w' => e = .returned (.int .u8 (getB L a)) ∧ Chg no w w' := by
  obtain ⟨n, hnl⟩ : ∃ n, n = L.length := ⟨_, rfl⟩
  have ho := h.own
  rw [← hnl] at ho
  obtain ⟨A, cap, rfl, hn, hm, hcell⟩ := own_form ho hnl.symm
  have h1 : w.cell? ⟨rm, 1, none⟩ = some (.slice A n cap) := h.blk.cell 1
  unfold maxLen at hm
  have HC := Lib.hid hcell; have HN := Lib.hid hnl
  clear h hcell hnl ho
  go_enter Try.func48, Try.ntmps48
  go_wp2
  go_loopw [12] (fun i wr => ∃ k : Nat, k ≤ n ∧ i = .int .i64 k ∧ getB L a = getB (L.drop k) a ∧ Chg no w wr) (fun i _ => n - (intOf i).toNat)
  case atStart => exact ⟨0, Nat.zero_le _, rfl, rfl, Chg.refl _ _⟩
  case round =>
    obtain ⟨k, hk, rfl, he, hc⟩ := hrel
    by_cases hlt : k < n
    · have hkl : k < L.length := by rw [← HN.out]; exact hlt
      obtain ⟨g, rfl, hcl⟩ := HC.out (by omega)
      have e1 := (hcl k hkl).1
      have e2 := (hcl k hkl).2
      have f1 : wr.cell? ⟨g, k * 2, none⟩ = some (.int .u64 L[k].1) := (World.cell?_of_block (w := w) (a := ⟨g, k * 2, none⟩) (hc.block g (cell_lt e1) (fun h => h))).trans e1
      have f2 : wr.cell? ⟨g, k * 2 + 1, none⟩ = some (.int .u8 L[k].2) := (World.cell?_of_block (w := w) (a := ⟨g, k * 2 + 1, none⟩) (hc.block g (cell_lt e1) (fun h => h))).trans e2
      rw [List.drop_eq_getElem_cons hkl, getB] at he
      obtain ⟨x, hx⟩ : ∃ x, x = L[k].1 := ⟨_, rfl⟩
      obtain ⟨b, hb⟩ : ∃ b, b = L[k].2 := ⟨_, rfl⟩
      rw [← hx] at f1 he
      rw [← hb] at f2 he
      have HE := Lib.hid he; have HCH := Lib.hid hc
      clear he hc hx hb e1 e2 hcl
      go_wp2
      · go_ret
        have hxa : x = a := by simp at *; omega
        exact ⟨by rw [HE.out, if_pos hxa]; rfl, HCH.out.thenAlloc _⟩
      · have hxa : ¬ x = a := by simp at *; omega
        refine ⟨⟨k + 1, hlt, by go_num, by rw [HE.out, if_neg hxa], HCH.out.thenAlloc _⟩, by simp [intOf]; omega⟩
    · obtain rfl : k = n := by omega
      have h0 : getB L a = 0 := by
        rw [he, HN.out, List.drop_length]; rfl
      have H0 := Lib.hid h0
      clear he h0
      go_wp2
      go_ret
      exact ⟨by rw [H0.out]; rfl, hc⟩
theorem infoB : (Try.prog.info? 100).map (fun i => (i.zero, i.size, i.bytes)) = some (some (.agg #[.int .u64 0, .int .u8 0]), 2, 16) := by kernel_rfl
theorem cell_two_new (w : World) (x y : Value) (t : TypeId) : ∀ j u, [x, y][j]? = some u → (w.alloc (.cells #[x, y] t)).cell? ((⟨w.heap.size, 0, none⟩ : Addr).add j) = some u := by
  intro j u hj
  have hb := Blk.new w [x, y] t
  rw [Go.WideShapes.add_plain, Nat.zero_add]
  exact (hb.cell j).trans hj
theorem cell_two_new2 (w : World) (o : Obj) (x y : Value) (t : TypeId) : ∀ j u, [x, y][j]? = some u → ((w.alloc o).alloc (.cells #[x, y] t)).cell? ((⟨w.heap.size + 1, 0, none⟩ : Addr).add j) = some u := by
  have h := cell_two_new (w.alloc o) x y t
  have e : (w.alloc o).heap.size = w.heap.size + 1 := by simp
  rwa [e] at h
theorem two_one {a b : Int} : ∀ u ∈ [Value.int .u64 a, Value.int .u8 b], u.oneCell' = true := by
  intro u hu
  simp at hu
  rcases hu with rfl | rfl <;> rfl
/-- what is left of a list without a place, so far -/
def sofar (L : List (Nat × Int)) (a k : Nat) : List (Nat × Int) := (L.take k).filter (fun p => decide (p.1 ≠ a))
theorem sofar_len (L : List (Nat × Int)) (a k : Nat) : (sofar L a k).length ≤ k := by
  unfold sofar
  have h1 := List.length_filter_le (fun p : Nat × Int => decide (p.1 ≠ a)) (L.take k)
  rw [List.length_take] at h1
  omega
theorem sofar_no {L : List (Nat × Int)} {a k : Nat} (h : k < L.length) (e : L[k].1 = a) : sofar L a (k + 1) = sofar L a k := by
  unfold sofar
  rw [List.take_succ_eq_append_getElem h, List.filter_append, List.filter_cons_of_neg (by simpa using e)]
  simp
theorem sofar_yes {L : List (Nat × Int)} {a k : Nat} (h : k < L.length) (e : ¬ L[k].1 = a) : sofar L a (k + 1) = sofar L a k ++ [L[k]] := by
  unfold sofar
  rw [List.take_succ_eq_append_getElem h, List.filter_append, List.filter_cons_of_pos (by simpa using e)]
  simp
theorem own_from {w : World} {B e s n : Nat} {v : Value} {xs : List Value} (h : w.ownsRow B e s v n xs) (k : Nat) (hk : v.ownBlock = some k) : B ≤ k := (h.lt k hk).1
theorem own_slice {w : World} {B e s n : Nat} {v : Value} {xs : List Value} (h : w.ownsRow B e s v n xs) : ∃ A c, v = .slice A n c := by
  rcases h.2 with ⟨rfl, h0⟩ | ⟨g, cap, cur, rfl, _⟩
  · exact ⟨none, 0, by rw [h0]⟩
  · exact ⟨_, _, rfl⟩
set_option maxHeartbeats 1000000 in
set_option maxRecDepth 100000 in
theorem mput_any (rm fr a : Nat) (b : Int) (v : Value) (L : List (Nat × Int)) (w : World) (h : RefM w rm fr v L) (hL : L.length ≤ 1000000) :
    Calls Try.prog 40 #[.pointer (some ⟨rm, 0, none⟩), .int .u64 a, .int .u8 b] w fun e w' => e = .returned (.tuple #[]) ∧ ∃ v', RefM w' rm fr v' (putB L a b) ∧ (∀ k, v'.ownBlock = some k → w.heap.size ≤ k) ∧ Chg (fun k => k = rm) w w' := by
  obtain ⟨i0, hi, hz0, hz1, hz2⟩ := info_parts infoB
  obtain ⟨n, hnl⟩ : ∃ n, n = L.length := ⟨_, rfl⟩
  have ho := h.own
  rw [← hnl] at ho hL
  obtain ⟨A, cap, hv, hn, hm, hcell⟩ := own_form ho hnl.symm
  have h1 : w.cell? ⟨rm, 1, none⟩ = some (.slice A n cap) := by rw [← hv]; exact h.blk.cell 1
  have hrm := h.blk.lt
  unfold maxLen at hm
  have HC := Lib.hid hcell; have HN := Lib.hid hnl; have HBK := Lib.hid h.blk
  clear h hcell hnl ho hv
  go_enter Try.func40, Try.ntmps40
  go_wp2
  go_loopw [6, 14] (fun s i wr => ∃ (k m : Nat) (y : Value), k ≤ n ∧ m ≤ k ∧ i = .int .i64 k ∧ y = s ∧ (sofar L a k).length = m ∧ wr.ownsRow w.heap.size 100 2 y m (cellsL (sofar L a k)) ∧ Chg no w wr) (fun _ i _ => n - (intOf i).toNat)
  case atStart => exact ⟨0, 0, _, Nat.zero_le _, Nat.zero_le _, rfl, rfl, rfl, World.ownsRow_nil _ _ _ _, Chg.refl _ _⟩
  case round =>
    obtain ⟨k, m, y, hk, hmk, rfl, rfl, hml, hown, hc⟩ := hrel
    by_cases hlt : k < n
    · have hkl : k < L.length := by rw [← HN.out]; exact hlt
      obtain ⟨g, rfl, hcl⟩ := HC.out (by omega)
      have e1 := (hcl k hkl).1
      have e2 := (hcl k hkl).2
      have f1 : wr.cell? ⟨g, k * 2, none⟩ = some (.int .u64 L[k].1) := (World.cell?_of_block (w := w) (a := ⟨g, k * 2, none⟩) (hc.block g (cell_lt e1) (fun h => h))).trans e1
      have f2 : wr.cell? ⟨g, k * 2 + 1, none⟩ = some (.int .u8 L[k].2) := (World.cell?_of_block (w := w) (a := ⟨g, k * 2 + 1, none⟩) (hc.block g (cell_lt e1) (fun h => h))).trans e2
      have s1 := @sofar_no L a k hkl
      have s2 := @sofar_yes L a k hkl
      obtain ⟨p, hp⟩ : ∃ p, p = L[k] := ⟨_, rfl⟩
      rw [← hp] at f1 f2 s1 s2
      obtain ⟨x, c⟩ := p
      simp only [] at f1 f2 s1 s2
      have S1 := Lib.hid s1; have S2 := Lib.hid s2; have HML := Lib.hid hml; have HO := Lib.hid hown; have HCH := Lib.hid hc
      have hws := hc.size
      clear s1 s2 hml hown hc hp e1 e2 hcl
      by_cases hxa : x = a
      · subst hxa
        go_wp2
        go_roundw
        case rel => exact ⟨k + 1, m, y, hlt, by omega, by go_num, rfl, by rw [S1.out rfl]; exact HML.out, by rw [S1.out rfl]; exact HO.out.alloc _, HCH.out.thenAlloc _⟩
        case measure => simp [intOf]; omega
      · have hxa' : ((x : Int) == (a : Int)) = false := by simp; omega
        go_wp2_with (at_builtin; refine wpList_append_own _ rfl (.tmp 22) (.tmp 24) 57 rfl w.heap.size 100 i0 (.agg #[.int .u64 0, .int .u8 0]) 2 16 Try.underlying57 hi hz0 hz1 hz2 rfl (by decide) y m _ rfl ((HO.out.alloc _).alloc _) ⟨wr.heap.size + 1, 0, none⟩ 1 1 [.int .u64 x, .int .u8 c] rfl rfl ?c1 two_one ?c3 ?c4 ?c5 ?_)
        case c1 => exact cell_two_new2 _ _ _ _ _
        case c3 => unfold maxLen; omega
        case c4 => omega
        case c5 => simp; omega
        intro v2 w2 hown2 hgr2 _
        have hc2 : Chg no w w2 := (((HCH.out.thenAlloc _).thenAlloc _).thenGrown hgr2 (fun j hj => .inr (own_from HO.out j hj)))
        have hown3 : w2.ownsRow w.heap.size 100 2 v2 (m + 1) (cellsL (sofar L a (k + 1))) := by
          rw [S2.out hxa, cellsL_app]; exact hown2
        have HO2 := Lib.hid hown3; have HC2 := Lib.hid hc2
        clear hown2 hgr2 hc2 hown3
        go_wp2
        go_roundw
        case rel => exact ⟨k + 1, m + 1, v2, hlt, by omega, by go_num, rfl, by rw [S2.out hxa, List.length_append, HML.out]; rfl, HO2.out, HC2.out⟩
        case measure => simp [intOf]; omega
    · obtain rfl : k = n := by omega
      have hsf : sofar L a k = L.filter (fun p => decide (p.1 ≠ a)) := by
        unfold sofar; rw [HN.out, List.take_length]
      have hws := hc.size
      have HML := Lib.hid hml; have HO := Lib.hid hown; have HCH := Lib.hid hc; have HSF := Lib.hid hsf
      have hsh : wr.heap.size ≥ w.heap.size := hws
      clear hml hown hc hsf
      by_cases hb0 : b = 0
      · subst hb0
        have hbk := HBK.out.chg HCH.out (fun h => h)
        have hf := hbk.free 1
        obtain ⟨u, hu⟩ : ∃ u, wr.cell? ⟨rm, 1, none⟩ = some u := ⟨_, hbk.cell 1⟩
        have HBK2 := Lib.hid hbk; clear hbk
        obtain ⟨A2, cap2, rfl⟩ := own_slice HO.out
        obtain ⟨y, hy⟩ : ∃ y, y = Value.slice A2 m cap2 := ⟨_, rfl⟩
        rw [← hy] at HO
        go_wp2
        go_end0
        rw [← hy]
        refine ⟨rfl, y, ⟨HBK2.out.set 1 y, ?_, ?_⟩, fun j hj => own_from HO.out j hj, (HCH.out.of_no).trans (Chg.setCell _ ⟨rm, 1, none⟩ _ rfl)⟩
        · have ho := own_base (own_chg (F := fun k => k = rm) HO.out (Chg.setCell _ ⟨rm, 1, none⟩ y rfl) (fun j hj e => by have := own_from HO.out j hj; omega)) (Nat.zero_le _)
          unfold putB
          rw [if_pos rfl, List.append_nil, ← HSF.out, HML.out]
          exact ho
        · intro e
          have := own_from HO.out _ e
          omega
      · have hb1 : (b == 0) = false := by simpa using hb0
        go_wp2_with (at_builtin; refine wpList_append_own _ rfl (.tmp 29) (.tmp 33) 57 rfl w.heap.size 100 i0 (.agg #[.int .u64 0, .int .u8 0]) 2 16 Try.underlying57 hi hz0 hz1 hz2 rfl (by decide) y m _ rfl (HO.out.alloc _) ⟨wr.heap.size, 0, none⟩ 1 1 [.int .u64 a, .int .u8 b] rfl rfl ?c1 two_one ?c3 ?c4 ?c5 ?_)
        case c1 => exact cell_two_new _ _ _ _
        case c3 => unfold maxLen; omega
        case c4 => omega
        case c5 => simp; omega
        intro v2 w2 hown2 hgr2 _
        have hc2 : Chg no w w2 := ((HCH.out.thenAlloc _).thenGrown hgr2 (fun j hj => .inr (own_from HO.out j hj)))
        have hbk := HBK.out.chg hc2 (fun h => h)
        have hf := hbk.free 1
        have hrm2 : ∃ u, w2.cell? ⟨rm, 1, none⟩ = some u := ⟨_, hbk.cell 1⟩
        obtain ⟨u, hu⟩ := hrm2
        have HBK2 := Lib.hid hbk; have HO2 := Lib.hid hown2; have HC2 := Lib.hid hc2
        clear hown2 hgr2 hc2 hbk
        obtain ⟨A2, cap2, rfl⟩ := own_slice HO2.out
        obtain ⟨v2, hy⟩ : ∃ y, y = Value.slice A2 (m + 1) cap2 := ⟨_, rfl⟩
        rw [← hy] at HO2
        go_wp2
        go_end0
        rw [← hy]
        refine ⟨rfl, v2, ⟨HBK2.out.set 1 v2, ?_, ?_⟩, fun j hj => own_from HO2.out j hj, (HC2.out.of_no).trans (Chg.setCell _ ⟨rm, 1, none⟩ _ rfl)⟩
        · have ho := own_base (own_chg (F := fun k => k = rm) HO2.out (Chg.setCell _ ⟨rm, 1, none⟩ v2 rfl) (fun j hj e => by have := own_from HO2.out j hj; omega)) (Nat.zero_le _)
          unfold putB
          rw [if_neg hb0, ← HSF.out, List.length_append, HML.out, cellsL_app]
          exact ho
        · intro e
          have := own_from HO2.out _ e
          omega
end Go.Proofs.Ytibmjbfnjkmjbaa
