/-
  The walk of WordPuts: for every bytes, every two ints and every word it returns true and changes nothing that was there, where the bytes are at most 2^47 - 4096.
-/
import Derived.Test.YtebhglenoaadjaaLaw01
import Derived.Deep.RegionWith
import Derived.Deep.RegionHeld3
import Derived.Deep.AppendLies
import Derived.Laws.AppendOwnNone
import Derived.Deep.QuietTactic
import Derived.BigQuiet
namespace Go.Proofs.Ytebhglenoaadjaa
open Go.RowKit
set_option linter.unusedVariables false
set_option linter.unusedSimpArgs false

theorem strOfNums_app (x y : List Int) : strOfNums (x ++ y) = strOfNums x ++ strOfNums y := by
  have e : ∀ s t : ByteArray, s.data.toList = t.data.toList → s = t := fun s t h => by
    cases s; cases t; simp at h; subst h; rfl
  apply e
  simp [strOfNums]
theorem cell_pair0 (w : World) (x y : Value) : (w.alloc (.cells #[x, y] 29)).cell? ⟨w.heap.size, 0, none⟩ = some x := by
  rw [cell_of_row (w.alloc (.cells #[x, y] 29)) w.heap.size 0 _ 29 (0, 0) (heap_alloc_new w _)]; rfl
theorem cell_pair1 (w : World) (x y : Value) : (w.alloc (.cells #[x, y] 29)).cell? ⟨w.heap.size, 1, none⟩ = some y := by
  rw [cell_of_row (w.alloc (.cells #[x, y] 29)) w.heap.size 1 _ 29 (0, 0) (heap_alloc_new w _)]; rfl
theorem below_drewNs {B : Nat} {a w : World} (h : Below B a w) : ∀ n, Below B a (w.drewN n)
  | 0 => h
  | n + 1 => (below_drewNs h n).drew
theorem Rd.cells {w : World} {ad : Addr} {l : List Int} (h : Rd w (some ad) l) (j : Nat) (u : Value) (hj : (l.map (Value.int .u8))[j]? = some u) : w.cell? (ad.add j) = some u := by
  have hl : j < l.length := by
    rcases Nat.lt_or_ge j l.length with h' | h'
    · exact h'
    · rw [List.getElem?_eq_none (by simpa using h')] at hj; cases hj
  obtain ⟨b, off, e, hc⟩ := h.2.2 (by omega)
  injection e with e
  subst e
  rw [Go.WideShapes.add_plain, hc j hl, ← hj, List.getElem?_map, List.getD_eq_getElem?_getD, List.getElem?_eq_getElem hl]; rfl
set_option maxHeartbeats 1000000 in
theorem puts_nil (a s v : Int) (w : World) (h0 : 0 ≤ v) (h1 : v ≤ 18446744073709551615) :
    Calls Try.prog 4 #[.slice none 0 0, .agg #[.int .i64 a, .int .i64 s], .int .u64 v] w fun e w' => e = .returned (.bool true) ∧ Below w.heap.size w w' := by
  have hn : ([] : List Int).length = 0 := rfl
  have hr : Rd w none [] := ⟨Byt.nil, by decide, fun h => by simp at h⟩
  have hin : ¬ InB (0 : Nat) a s := fun h => by have := h.2; have := h.1; unfold SzI at this; omega
  obtain ⟨i0, hi, hz0, hz1, hz2⟩ := info_parts info_u8
  have HN := Lib.hid hn; have HR := Lib.hid hr; clear hn hr
  go_enter Try.func4, Try.ntmps4
  go_wp2_with fail
  refine (first_any _).mono ?_
  rintro e w1 ⟨rfl, hb1⟩
  have hbx : w1.cell? ⟨w.heap.size, 0, none⟩ = some (.int .i64 a) := (hb1.cell (p := ⟨w.heap.size, 0, none⟩) (by simp)).trans (cell_pair0 w _ _)
  have hby : w1.cell? ⟨w.heap.size, 1, none⟩ = some (.int .i64 s) := (hb1.cell (p := ⟨w.heap.size, 1, none⟩) (by simp)).trans (cell_pair1 w _ _)
  have HB1 : Hid (Below w.heap.size w w1) := ((Below.refl _ _).alloc (Nat.le_refl _) _).trans (hb1.mono (by simp))
  clear hb1
  go_wp2_with fail
  go_quiet (fail)
  clear hbx hby
  obtain ⟨wq, hWQ⟩ : ∃ wq, wq = w1.drewN nq := ⟨_, rfl⟩
  have HQ : Hid (Below w.heap.size w wq) := by rw [hWQ]; exact below_drewNs HB1.out nq
  rw [← hWQ]
  clear hWQ
  clear HR HN hz0 hz1 hz2 hi
  have hcvn : ∀ (w0 : World) (A : Option Addr) (c : Nat), (convert 22 9 (.slice A 0 c)).run Try.prog w0 = .ok (.string (strOfNums [])) w0 := fun w0 A c => Rd.conv (w := w0) (l := []) ⟨Byt.nil, by decide, fun h => by simp at h⟩ 0 c rfl
  go_wp2_with fail
  refine (rget_no none 0 0 a s _ (by omega) hin).mono ?_
  rintro e w2 ⟨rfl, hb2⟩
  have HB2 : Hid (Below w.heap.size w w2) := (HQ.out.alloc HQ.out.size _).trans (hb2.mono (by have := HQ.out.size; simp; omega))
  clear hb2
  go_wp2_with fail
  refine (put_no _ 0 0 a s v _ (by omega) hin).mono ?_
  rintro e w3 ⟨rfl, rfl⟩
  go_wp2
  go_ret
  exact ⟨rfl, HB2.out⟩
set_option maxHeartbeats 1000000 in
theorem puts_no (ad : Addr) (n cap : Nat) (l : List Int) (a s v : Int) (w : World) (hr : Rd w (some ad) l) (hn : l.length = n) (hm : n ≤ 140737488351232) (hin : ¬ InB n a s) (h0 : 0 ≤ v) (h1 : v ≤ 18446744073709551615) :
    Calls Try.prog 4 #[.slice (some ad) n cap, .agg #[.int .i64 a, .int .i64 s], .int .u64 v] w fun e w' => e = .returned (.bool true) ∧ Below w.heap.size w w' := by
  obtain ⟨i0, hi, hz0, hz1, hz2⟩ := info_parts info_u8
  have HN := Lib.hid hn; have HR := Lib.hid hr; clear hn hr
  go_enter Try.func4, Try.ntmps4
  go_wp2_with fail
  refine (first_any _).mono ?_
  rintro e w1 ⟨rfl, hb1⟩
  have hbx : w1.cell? ⟨w.heap.size, 0, none⟩ = some (.int .i64 a) := (hb1.cell (p := ⟨w.heap.size, 0, none⟩) (by simp)).trans (cell_pair0 w _ _)
  have hby : w1.cell? ⟨w.heap.size, 1, none⟩ = some (.int .i64 s) := (hb1.cell (p := ⟨w.heap.size, 1, none⟩) (by simp)).trans (cell_pair1 w _ _)
  have HB1 : Hid (Below w.heap.size w w1) := ((Below.refl _ _).alloc (Nat.le_refl _) _).trans (hb1.mono (by simp))
  clear hb1
  go_wp2_with fail
  go_quiet (fail)
  clear hbx hby
  obtain ⟨wq, hWQ⟩ : ∃ wq, wq = w1.drewN nq := ⟨_, rfl⟩
  have HQ : Hid (Below w.heap.size w wq) := by rw [hWQ]; exact below_drewNs HB1.out nq
  rw [← hWQ]
  clear hWQ
  have hrq : Rd wq (some ad) l := HR.out.below HQ.out
  have HRQ := Lib.hid hrq; clear hrq
  go_wp2_with (at_builtin; refine wpList_append_own _ rfl (.tmp 18) (.tmp 19) 22 rfl w.heap.size 5 i0 (.int .u8 0) 1 1 Try.underlying22 hi hz0 hz1 hz2 rfl (by decide) _ 0 [] rfl ?c0 ad n cap (l.map (Value.int .u8)) rfl ?c1 ?c2 ?c3 ?c4 ?c5 ?c6 ?_)
  case c0 => exact World.ownsRow_lit wq #[] 0 HQ.out.size (by unfold maxLen; omega) (by simp)
  case c1 => rw [List.length_map, HN.out]; omega
  case c2 => exact fun j u hj => Rd.cells (HRQ.out.below ((Below.refl _ _).alloc (Nat.le_refl _) _)) j u hj
  case c3 => intro u hu; simp only [List.mem_map] at hu; obtain ⟨x, _, rfl⟩ := hu; rfl
  case c4 => unfold maxLen; omega
  case c5 => omega
  case c6 => have := HQ.out.size; simp; omega
  intro v' w2 hown hgrow _
  have ho : OwnV w.heap.size l v' w2 := by unfold OwnV; rw [HN.out]; simpa using hown
  have HB2 : Hid (Below w.heap.size w w2) := (HQ.out.alloc HQ.out.size _).grown hgrow (by have := HQ.out.size; simp; omega) (fun k hk => by simp [Value.ownBlock] at hk; subst hk; exact HQ.out.size)
  clear hown hgrow
  obtain ⟨A', cap', rfl, hr'⟩ := ho.rd HR.out.1 (by rw [HN.out]; omega)
  rw [HN.out]
  have HR' := Lib.hid hr'; clear hr' ho
  go_wp2_with fail
  refine (rget_no (some ad) n cap a s _ (by omega) hin).mono ?_
  rintro e w3 ⟨rfl, hb3⟩
  have HR3 := Lib.hid (HR'.out.below hb3)
  have HB3 : Hid (Below w.heap.size w w3) := HB2.out.trans (hb3.mono HB2.out.size)
  clear hb3
  go_wp2_with fail
  refine (put_no _ n cap' a s v _ (by omega) hin).mono ?_
  rintro e w4 ⟨rfl, rfl⟩
  have hcv1 := HR3.out.conv n cap' HN.out
  have hcv2 := (HR.out.below HB3.out).conv n cap HN.out
  go_wp2
  go_ret
  exact ⟨by simp, HB3.out⟩
theorem Rd.upto {w : World} {A : Option Addr} {l : List Int} (h : Rd w A l) (k : Nat) : Rd w A (l.take k) := by
  refine ⟨h.1.take k, by have := h.2.1; rw [List.length_take]; omega, fun hl => ?_⟩
  rw [List.length_take] at hl
  obtain ⟨b, off, e, hc⟩ := h.2.2 (by omega)
  refine ⟨b, off, e, fun i hi => ?_⟩
  rw [List.length_take] at hi
  rw [hc i (by omega), List.getD_eq_getElem?_getD, List.getD_eq_getElem?_getD, List.getElem?_take_of_lt (by omega)]
theorem Rd.from_ {w : World} {b off : Nat} {l : List Int} (h : Rd w (some ⟨b, off, none⟩) l) (k : Nat) : Rd w (some ⟨b, off + k, none⟩) (l.drop k) := by
  refine ⟨h.1.drop k, by have := h.2.1; rw [List.length_drop]; omega, fun hl => ?_⟩
  rw [List.length_drop] at hl
  obtain ⟨b', off', e, hc⟩ := h.2.2 (by omega)
  injection e with e
  injection e with e1 e2 _
  subst e1; subst e2
  refine ⟨b, off + k, rfl, fun i hi => ?_⟩
  rw [List.length_drop] at hi
  rw [Nat.add_assoc, hc (k + i) (by omega), List.getD_eq_getElem?_getD, List.getD_eq_getElem?_getD, List.getElem?_drop]
theorem wpAnyH_more {P : Program} {ops : Array Oper} {Q : Exit → Act → World → Prop} {md : Region.Mode} {S S' : World → Prop} (hS : ∀ w, S' w → S w) :
    ∀ (fuel : Nat) (listed : Array Bool) (a : Act) (w : World), wpAnyH P md ops Q S' fuel listed a w → wpAnyH P md ops Q S fuel listed a w
  | 0, _, _, _, h => h
  | fuel + 1, _, _, _, h => ⟨h.1, fun i hi => wpOp_mono (fun a' w' h' => ⟨hS _ h'.1, wpAnyH_more hS fuel _ a' w' h'.2⟩) (h.2 i hi)⟩
set_option maxHeartbeats 2000000 in
theorem puts_in (b off n cap : Nat) (l : List Int) (a s : Nat) (v : Int) (w : World) (hr : Rd w (some ⟨b, off, none⟩) l) (hn : l.length = n) (hm : n ≤ 140737488351232) (hnc : n ≤ cap) (hcm : cap ≤ 9223372036854775807) (hin : InB n a s) (hlast : ¬ cap = a + s) (h0 : 0 ≤ v) (h1 : v ≤ 18446744073709551615) :
    Calls Try.prog 4 #[.slice (some ⟨b, off, none⟩) n cap, .agg #[.int .i64 a, .int .i64 s], .int .u64 v] w fun e w' => e = .returned (.bool true) ∧ Below w.heap.size w w' := by
  have hsz := hin.1
  have b1 : a + s ≤ n := by have := hin.2.2; omega
  have b2 : 1 ≤ s := by unfold SzI at hsz; omega
  obtain ⟨i0, hi, hz0, hz1, hz2⟩ := info_parts info_u8
  have HN := Lib.hid hn; have HR := Lib.hid hr; clear hn hr
  go_enter Try.func4, Try.ntmps4
  go_wp2_with fail
  refine (first_any _).mono ?_
  rintro e w1 ⟨rfl, hb1⟩
  have hbx : w1.cell? ⟨w.heap.size, 0, none⟩ = some (.int .i64 a) := (hb1.cell (p := ⟨w.heap.size, 0, none⟩) (by simp)).trans (cell_pair0 w _ _)
  have hby : w1.cell? ⟨w.heap.size, 1, none⟩ = some (.int .i64 s) := (hb1.cell (p := ⟨w.heap.size, 1, none⟩) (by simp)).trans (cell_pair1 w _ _)
  have HB1 : Hid (Below w.heap.size w w1) := ((Below.refl _ _).alloc (Nat.le_refl _) _).trans (hb1.mono (by simp))
  clear hb1
  go_wp2_with fail
  go_quiet (fail)
  clear hbx hby
  obtain ⟨wq, hWQ⟩ : ∃ wq, wq = w1.drewN nq := ⟨_, rfl⟩
  have HQ : Hid (Below w.heap.size w wq) := by rw [hWQ]; exact below_drewNs HB1.out nq
  rw [← hWQ]
  clear hWQ
  have hrq : Rd wq (some ⟨b, off, none⟩) l := HR.out.below HQ.out
  have HRQ := Lib.hid hrq; clear hrq
  go_wp2_with (at_builtin; refine wpList_append_own _ rfl (.tmp 18) (.tmp 19) 22 rfl w.heap.size 5 i0 (.int .u8 0) 1 1 Try.underlying22 hi hz0 hz1 hz2 rfl (by decide) _ 0 [] rfl ?c0 ⟨b, off, none⟩ n cap (l.map (Value.int .u8)) rfl ?c1 ?c2 ?c3 ?c4 ?c5 ?c6 ?_)
  case c0 => exact World.ownsRow_lit wq #[] 0 HQ.out.size (by unfold maxLen; omega) (by simp)
  case c1 => rw [List.length_map, HN.out]; omega
  case c2 => exact fun j u hj => Rd.cells (HRQ.out.below ((Below.refl _ _).alloc (Nat.le_refl _) _)) j u hj
  case c3 => intro u hu; simp only [List.mem_map] at hu; obtain ⟨x, _, rfl⟩ := hu; rfl
  case c4 => unfold maxLen; omega
  case c5 => omega
  case c6 => have := HQ.out.size; simp; omega
  intro v' w2 hown hgrow _
  have ho : OwnV w.heap.size l v' w2 := by unfold OwnV; rw [HN.out]; simpa using hown
  have HB2 : Hid (Below w.heap.size w w2) := (HQ.out.alloc HQ.out.size _).grown hgrow (by have := HQ.out.size; simp; omega) (fun k hk => by simp [Value.ownBlock] at hk; subst hk; exact HQ.out.size)
  clear hown hgrow
  obtain ⟨g, cap', rfl, hbg, hgl⟩ := World.ownsRow.form ho (by rw [HN.out]; omega)
  rw [HN.out]
  have HO : Hid (w2.ownsRow w.heap.size 5 1 (.slice (some ⟨g, 0, none⟩) n cap') n (l.map (Value.int .u8))) := by have := ho; unfold OwnV at this; rw [HN.out] at this; exact this
  clear ho
  go_wp2_with fail
  refine (rget_yes (some ⟨b, off, none⟩) n l cap a s _ (HR.out.below HB2.out) HN.out hin).mono ?_
  rintro e w3 ⟨rfl, hb3⟩
  have HO3 := Lib.hid (World.ownsRow.kept HO.out (grown_of_below hb3) (Classical.em _))
  have HB3 : Hid (Below w.heap.size w w3) := HB2.out.trans (hb3.mono HB2.out.size)
  clear hb3
  go_wp2_with fail
  refine (put_yes g n cap' a s v l _ _ h0 h1 (by omega) hin HO3.out).mono ?_
  rintro e w4 ⟨rfl, ho4, hb4⟩
  have HB4 : Hid (Below w.heap.size w w4) := HB3.out.trans hb4
  have hll : (lay l a (byt v s)).length = n := by rw [lay_len _ _ _ (by rw [byt_len, HN.out]; exact b1), HN.out]
  have hr4 : ∃ A'' cap'', Value.slice (some ⟨g, 0, none⟩) n cap' = .slice A'' (lay l a (byt v s)).length cap'' ∧ Rd w4 A'' (lay l a (byt v s)) := OwnV.rd (by unfold OwnV; rw [hll]; exact ho4) (lay_Byt _ HR.out.1 (byt_Byt _ _)) (by rw [hll]; omega)
  have HR4 : Hid (Rd w4 (some ⟨g, 0, none⟩) (lay l a (byt v s))) := by
    obtain ⟨A'', cap'', e, h⟩ := hr4
    injection e with e1 _ _
    rw [e1]; exact h
  have HLL := Lib.hid hll
  clear ho4 hb4 hr4 hll
  have hrb : Rd w4.drew (some ⟨b, off, none⟩) l := HR.out.below HB4.out.drew
  have hro : Rd w4.drew (some ⟨g, 0, none⟩) (lay l a (byt v s)) := HR4.out.below (Below.refl _ _).drew
  have HRB := Lib.hid hrb; have HRO := Lib.hid hro; clear hrb hro
  have ew : IntKind.i64.wrap ((a : Int) + (s : Int)) = (a : Int) + (s : Int) := IntWalk.i64_in _ (by omega)
  have en : (0 : Int) ≤ (a : Int) + (s : Int) := by omega
  have et : ((a : Int) + (s : Int)).toNat = a + s := by omega
  have hq1 := HRO.out.conv n cap' HLL.out
  have hq2 := (HRB.out.upto a).conv a cap (by rw [List.length_take, HN.out]; omega)
  have hq3 := (HRB.out.from_ (a + s)).conv (n - (a + s)) (cap - (a + s)) (by rw [List.length_drop, HN.out])
  have f1 : ∀ w0 : World, (Op.stringOp .add (strOfNums (l.take a)) (strOfNums (byt v s))).run Try.prog w0 = .ok (.string (strOfNums (l.take a ++ byt v s))) w0 := fun w0 => by
    rw [run_string_add_sum _ _ _ (by rw [strOfNums_size, strOfNums_size, byt_len, List.length_take]; omega), strOfNums_app]
  have f2 : ∀ w0 : World, (Op.stringOp .add (strOfNums (l.take a ++ byt v s)) (strOfNums (l.drop (a + s)))).run Try.prog w0 = .ok (.string (strOfNums (lay l a (byt v s)))) w0 := fun w0 => by
    rw [run_string_add_sum _ _ _ (by rw [strOfNums_size, strOfNums_size, List.length_append, byt_len, List.length_take, List.length_drop]; have := HN.out; omega), ← strOfNums_app, lay, byt_len]
  have hca : a ≤ cap := by omega
  have hcn : (a : Int) + (s : Int) ≤ (n : Int) := by omega
  have hcas : a + s ≤ cap := by omega
  go_wp2_with fail
  refine wp_region_held_drew (S := fun w' => (convert 22 9 (.slice (some ⟨g, 0, none⟩) n cap')).run Try.prog w' = .ok (.string (strOfNums (lay l a (byt v s)))) w' ∧ (convert 22 9 (.slice (some ⟨b, off, none⟩) a cap)).run Try.prog w' = .ok (.string (strOfNums (l.take a))) w' ∧ (convert 22 9 (.slice (some ⟨b, off + (a + s), none⟩) (n - (a + s)) (cap - (a + s)))).run Try.prog w' = .ok (.string (strOfNums (l.drop (a + s)))) w') (by kernel_rfl) ⟨hq1, hq2, hq3⟩ (fun hHeld => ?_)
  clear hq1 hq2 hq3
  simp only [List.size_toArray, List.length_cons, List.length_nil, Nat.reduceAdd]
  rw [show Array.replicate 20 false = [false, false, false, false, false, false, false, false, false, false, false, false, false, false, false, false, false, false, false, false].toArray from rfl]
  refine wpAnyH_take (i := 0) (v := ?_) rfl (by kernel_rfl) (by kernel_rfl) (by kernel_rfl) (fun _ _ _ h => h) (Or.inl ⟨by rfl, ?yldq⟩) (by assumption) ?_
  case yldq => (intro w hSw; (try dsimp only at hSw); go_simp; try with_reducible rfl)
  try simp only [Act.put, List.setIfInBounds_toArray, List.set_cons_zero, List.set_cons_succ, List.getElem_toArray, List.getElem_cons_succ, List.getElem_cons_zero]
  refine wpAnyH_take (i := 1) (v := ?_) rfl (by kernel_rfl) (by kernel_rfl) (by kernel_rfl) (fun _ _ _ h => h) (Or.inl ⟨by rfl, ?yldq⟩) (by assumption) ?_
  case yldq => (intro w hSw; (try dsimp only at hSw); go_simp; try with_reducible rfl)
  try simp only [Act.put, List.setIfInBounds_toArray, List.set_cons_zero, List.set_cons_succ, List.getElem_toArray, List.getElem_cons_succ, List.getElem_cons_zero]
  refine wpAnyH_take (i := 2) (v := ?_) rfl (by kernel_rfl) (by kernel_rfl) (by kernel_rfl) (fun _ _ _ h => h) (Or.inl ⟨by rfl, ?yldq⟩) (by assumption) ?_
  case yldq => (intro w hSw; (try dsimp only at hSw); go_simp; try with_reducible rfl)
  try simp only [Act.put, List.setIfInBounds_toArray, List.set_cons_zero, List.set_cons_succ, List.getElem_toArray, List.getElem_cons_succ, List.getElem_cons_zero]
  refine wpAnyH_take (i := 3) (v := ?_) rfl (by kernel_rfl) (by kernel_rfl) (by kernel_rfl) (fun _ _ _ h => h) (Or.inl ⟨by rfl, ?yldq⟩) (by assumption) ?_
  case yldq => (intro w hSw; (try dsimp only at hSw); go_simp; try with_reducible rfl)
  try simp only [Act.put, List.setIfInBounds_toArray, List.set_cons_zero, List.set_cons_succ, List.getElem_toArray, List.getElem_cons_succ, List.getElem_cons_zero]
  refine wpAnyH_take (i := 4) (v := ?_) rfl (by kernel_rfl) (by kernel_rfl) (by kernel_rfl) (fun _ _ _ h => h) (Or.inl ⟨by rfl, ?yldq⟩) (by assumption) ?_
  case yldq => (intro w hSw; (try dsimp only at hSw); go_simp; try with_reducible rfl)
  try simp only [Act.put, List.setIfInBounds_toArray, List.set_cons_zero, List.set_cons_succ, List.getElem_toArray, List.getElem_cons_succ, List.getElem_cons_zero]
  refine wpAnyH_take (i := 5) (v := ?_) rfl (by kernel_rfl) (by kernel_rfl) (by kernel_rfl) (fun _ _ _ h => h) (Or.inl ⟨by rfl, ?yldq⟩) (by assumption) ?_
  case yldq => (intro w hSw; (try dsimp only at hSw); go_simp; try with_reducible rfl)
  try simp only [Act.put, List.setIfInBounds_toArray, List.set_cons_zero, List.set_cons_succ, List.getElem_toArray, List.getElem_cons_succ, List.getElem_cons_zero]
  refine wpAnyH_take (i := 6) (v := ?_) rfl (by kernel_rfl) (by kernel_rfl) (by kernel_rfl) (fun _ _ _ h => h) (Or.inl ⟨by rfl, ?yldq⟩) (by assumption) ?_
  case yldq => (intro w hSw; (try dsimp only at hSw); go_simp; try with_reducible rfl)
  try simp only [Act.put, List.setIfInBounds_toArray, List.set_cons_zero, List.set_cons_succ, List.getElem_toArray, List.getElem_cons_succ, List.getElem_cons_zero]
  refine wpAnyH_take (i := 7) (v := ?_) rfl (by kernel_rfl) (by kernel_rfl) (by kernel_rfl) (fun _ _ _ h => h) (Or.inl ⟨by rfl, ?yldq⟩) (by assumption) ?_
  case yldq => (intro w hSw; (try dsimp only at hSw); go_simp; try with_reducible rfl)
  try simp only [Act.put, List.setIfInBounds_toArray, List.set_cons_zero, List.set_cons_succ, List.getElem_toArray, List.getElem_cons_succ, List.getElem_cons_zero]
  refine wpAnyH_take (i := 11) (v := ?_) rfl (by kernel_rfl) (by kernel_rfl) (by kernel_rfl) (fun _ _ _ h => h) (Or.inl ⟨by rfl, ?yldq⟩) (by assumption) ?_
  case yldq => (intro w hSw; (try dsimp only at hSw); go_simp; try with_reducible rfl)
  try simp only [Act.put, List.setIfInBounds_toArray, List.set_cons_zero, List.set_cons_succ, List.getElem_toArray, List.getElem_cons_succ, List.getElem_cons_zero]
  refine wpAnyH_take (i := 12) (v := ?_) rfl (by kernel_rfl) (by kernel_rfl) (by kernel_rfl) (fun _ _ _ h => h) (Or.inl ⟨by rfl, ?yldq⟩) (by assumption) ?_
  case yldq => (intro w hSw; (try dsimp only at hSw); go_simp; try with_reducible rfl)
  try simp only [Act.put, List.setIfInBounds_toArray, List.set_cons_zero, List.set_cons_succ, List.getElem_toArray, List.getElem_cons_succ, List.getElem_cons_zero]
  refine wpAnyH_take (i := 13) (v := ?_) rfl (by kernel_rfl) (by kernel_rfl) (by kernel_rfl) (fun _ _ _ h => h) (Or.inl ⟨by rfl, ?yldq⟩) (by assumption) ?_
  case yldq => (intro w hSw; (try dsimp only at hSw); go_simp; try with_reducible rfl)
  try simp only [Act.put, List.setIfInBounds_toArray, List.set_cons_zero, List.set_cons_succ, List.getElem_toArray, List.getElem_cons_succ, List.getElem_cons_zero]
  refine wpAnyH_take (i := 14) (v := ?_) rfl (by kernel_rfl) (by kernel_rfl) (by kernel_rfl) (fun _ _ _ h => h) (Or.inl ⟨by rfl, ?yldq⟩) (by assumption) ?_
  case yldq => (intro w hSw; (try dsimp only at hSw); go_simp; try with_reducible rfl)
  try simp only [Act.put, List.setIfInBounds_toArray, List.set_cons_zero, List.set_cons_succ, List.getElem_toArray, List.getElem_cons_succ, List.getElem_cons_zero]
  refine wpAnyH_take (i := 15) (v := ?_) rfl (by kernel_rfl) (by kernel_rfl) (by kernel_rfl) (fun _ _ _ h => h) (Or.inl ⟨by rfl, ?yldq⟩) (by assumption) ?_
  case yldq => (intro w hSw; (try dsimp only at hSw); go_simp; try with_reducible rfl)
  try simp only [Act.put, List.setIfInBounds_toArray, List.set_cons_zero, List.set_cons_succ, List.getElem_toArray, List.getElem_cons_succ, List.getElem_cons_zero]
  refine wpAnyH_take (i := 16) (v := ?_) rfl (by kernel_rfl) (by kernel_rfl) (by kernel_rfl) (fun _ _ _ h => h) (Or.inl ⟨by rfl, ?yldq⟩) (by assumption) ?_
  case yldq => (intro w hSw; (try dsimp only at hSw); go_simp; try with_reducible rfl)
  try simp only [Act.put, List.setIfInBounds_toArray, List.set_cons_zero, List.set_cons_succ, List.getElem_toArray, List.getElem_cons_succ, List.getElem_cons_zero]
  refine wpAnyH_ready (rs := [8]) (by kernel_rfl) (by simp) ?_
  refine AllReadyH.cons rfl (fun K hK => ?_) AllReadyH.nil
  go_simp
  refine (rbytes_yes _ _ _ hsz h0 h1).mono ?_
  rintro e w5 ⟨y5, rfl, hy5, hb5⟩
  obtain ⟨A5, cap5, rfl, hr5⟩ := hy5.rd (byt_Byt _ _) (by rw [byt_len]; omega)
  have d5 := hr5.conv _ cap5 rfl
  have hS5 : ((convert 22 9 (.slice (some ⟨g, 0, none⟩) n cap')).run Try.prog w5 = .ok (.string (strOfNums (lay l a (byt v s)))) w5 ∧ (convert 22 9 (.slice (some ⟨b, off, none⟩) a cap)).run Try.prog w5 = .ok (.string (strOfNums (l.take a))) w5 ∧ (convert 22 9 (.slice (some ⟨b, off + (a + s), none⟩) (n - (a + s)) (cap - (a + s)))).run Try.prog w5 = .ok (.string (strOfNums (l.drop (a + s)))) w5) := ⟨(HRO.out.below hb5).conv n cap' HLL.out, ((HRB.out.below hb5).upto a).conv a cap (by rw [List.length_take, HN.out]; omega), ((HRB.out.below hb5).from_ (a + s)).conv (n - (a + s)) (cap - (a + s)) (by rw [List.length_drop, HN.out])⟩
  have HB5 : Hid (Below w.heap.size w w5) := HB4.out.drew.trans (hb5.mono HB4.out.drew.size)
  clear hb5 hr5 hy5
  refine hK.out _ _ hS5 (fun _ => ?_)
  clear hK K
  refine wpAnyH_more (S' := fun w' => (convert 22 9 (.slice A5 (byt v s).length cap5)).run Try.prog w' = .ok (.string (strOfNums (byt v s))) w' ∧ ((convert 22 9 (.slice (some ⟨g, 0, none⟩) n cap')).run Try.prog w' = .ok (.string (strOfNums (lay l a (byt v s)))) w' ∧ (convert 22 9 (.slice (some ⟨b, off, none⟩) a cap)).run Try.prog w' = .ok (.string (strOfNums (l.take a))) w' ∧ (convert 22 9 (.slice (some ⟨b, off + (a + s), none⟩) (n - (a + s)) (cap - (a + s)))).run Try.prog w' = .ok (.string (strOfNums (l.drop (a + s)))) w')) (fun w' h => h.2) _ _ _ _ ?_
  have hS6 := And.intro d5 hS5
  clear d5 hS5 hHeld
  refine wpAnyH_take (i := 9) (v := ?_) rfl (by kernel_rfl) (by kernel_rfl) (by kernel_rfl) (fun _ _ _ h => h) (Or.inl ⟨by rfl, ?yldq⟩) (by assumption) ?_
  case yldq => (intro w hSw; (try dsimp only at hSw); go_simp; try with_reducible rfl)
  try simp only [Act.put, List.setIfInBounds_toArray, List.set_cons_zero, List.set_cons_succ, List.getElem_toArray, List.getElem_cons_succ, List.getElem_cons_zero]
  refine wpAnyH_take (i := 10) (v := ?_) rfl (by kernel_rfl) (by kernel_rfl) (by kernel_rfl) (fun _ _ _ h => h) (Or.inl ⟨by rfl, ?yldq⟩) (by assumption) ?_
  case yldq => (intro w hSw; (try dsimp only at hSw); go_simp; try with_reducible rfl)
  try simp only [Act.put, List.setIfInBounds_toArray, List.set_cons_zero, List.set_cons_succ, List.getElem_toArray, List.getElem_cons_succ, List.getElem_cons_zero]
  refine wpAnyH_take (i := 17) (v := ?_) rfl (by kernel_rfl) (by kernel_rfl) (by kernel_rfl) (fun _ _ _ h => h) (Or.inl ⟨by rfl, ?yldq⟩) (by assumption) ?_
  case yldq => (intro w hSw; (try dsimp only at hSw); go_simp; try with_reducible rfl)
  try simp only [Act.put, List.setIfInBounds_toArray, List.set_cons_zero, List.set_cons_succ, List.getElem_toArray, List.getElem_cons_succ, List.getElem_cons_zero]
  refine wpAnyH_take (i := 18) (v := ?_) rfl (by kernel_rfl) (by kernel_rfl) (by kernel_rfl) (fun _ _ _ h => h) (Or.inl ⟨by rfl, ?yldq⟩) (by assumption) ?_
  case yldq => (intro w hSw; (try dsimp only at hSw); go_simp; try with_reducible rfl)
  try simp only [Act.put, List.setIfInBounds_toArray, List.set_cons_zero, List.set_cons_succ, List.getElem_toArray, List.getElem_cons_succ, List.getElem_cons_zero]
  refine wpAnyH_take (i := 19) (v := ?_) rfl (by kernel_rfl) (by kernel_rfl) (by kernel_rfl) (fun _ _ _ h => h) (Or.inl ⟨by rfl, ?yldq⟩) (by assumption) ?_
  case yldq => (intro w hSw; (try dsimp only at hSw); go_simp; try with_reducible rfl)
  try simp only [Act.put, List.setIfInBounds_toArray, List.set_cons_zero, List.set_cons_succ, List.getElem_toArray, List.getElem_cons_succ, List.getElem_cons_zero]
  refine wpAnyH_done (by kernel_rfl) ?_ _
  clear hS6
  go_wp2
  go_ret
  exact ⟨by simp, HB5.out⟩
set_option maxHeartbeats 2000000 in
theorem puts_last (b off : Nat) (l : List Int) (a s : Nat) (v : Int) (w : World) (hr : Rd w (some ⟨b, off, none⟩) l) (hn : l.length = a + s) (hm : a + s ≤ 140737488351232) (hin : InB (a + s : Nat) a s) (h0 : 0 ≤ v) (h1 : v ≤ 18446744073709551615) :
    Calls Try.prog 4 #[.slice (some ⟨b, off, none⟩) (a + s) (a + s), .agg #[.int .i64 a, .int .i64 s], .int .u64 v] w fun e w' => e = .returned (.bool true) ∧ Below w.heap.size w w' := by
  have hsz := hin.1
  have b1 : a + s ≤ (a + s) := by have := hin.2.2; omega
  have b2 : 1 ≤ s := by unfold SzI at hsz; omega
  obtain ⟨i0, hi, hz0, hz1, hz2⟩ := info_parts info_u8
  have HN := Lib.hid hn; have HR := Lib.hid hr; clear hn hr
  go_enter Try.func4, Try.ntmps4
  go_wp2_with fail
  refine (first_any _).mono ?_
  rintro e w1 ⟨rfl, hb1⟩
  have hbx : w1.cell? ⟨w.heap.size, 0, none⟩ = some (.int .i64 a) := (hb1.cell (p := ⟨w.heap.size, 0, none⟩) (by simp)).trans (cell_pair0 w _ _)
  have hby : w1.cell? ⟨w.heap.size, 1, none⟩ = some (.int .i64 s) := (hb1.cell (p := ⟨w.heap.size, 1, none⟩) (by simp)).trans (cell_pair1 w _ _)
  have HB1 : Hid (Below w.heap.size w w1) := ((Below.refl _ _).alloc (Nat.le_refl _) _).trans (hb1.mono (by simp))
  clear hb1
  go_wp2_with fail
  go_quiet (fail)
  clear hbx hby
  obtain ⟨wq, hWQ⟩ : ∃ wq, wq = w1.drewN nq := ⟨_, rfl⟩
  have HQ : Hid (Below w.heap.size w wq) := by rw [hWQ]; exact below_drewNs HB1.out nq
  rw [← hWQ]
  clear hWQ
  have hrq : Rd wq (some ⟨b, off, none⟩) l := HR.out.below HQ.out
  have HRQ := Lib.hid hrq; clear hrq
  go_wp2_with (at_builtin; refine wpList_append_own _ rfl (.tmp 18) (.tmp 19) 22 rfl w.heap.size 5 i0 (.int .u8 0) 1 1 Try.underlying22 hi hz0 hz1 hz2 rfl (by decide) _ 0 [] rfl ?c0 ⟨b, off, none⟩ (a + s) (a + s) (l.map (Value.int .u8)) rfl ?c1 ?c2 ?c3 ?c4 ?c5 ?c6 ?_)
  case c0 => exact World.ownsRow_lit wq #[] 0 HQ.out.size (by unfold maxLen; omega) (by simp)
  case c1 => rw [List.length_map, HN.out]; omega
  case c2 => exact fun j u hj => Rd.cells (HRQ.out.below ((Below.refl _ _).alloc (Nat.le_refl _) _)) j u hj
  case c3 => intro u hu; simp only [List.mem_map] at hu; obtain ⟨x, _, rfl⟩ := hu; rfl
  case c4 => unfold maxLen; omega
  case c5 => omega
  case c6 => have := HQ.out.size; simp; omega
  intro v' w2 hown hgrow _
  have ho : OwnV w.heap.size l v' w2 := by unfold OwnV; rw [HN.out]; simpa using hown
  have HB2 : Hid (Below w.heap.size w w2) := (HQ.out.alloc HQ.out.size _).grown hgrow (by have := HQ.out.size; simp; omega) (fun k hk => by simp [Value.ownBlock] at hk; subst hk; exact HQ.out.size)
  clear hown hgrow
  obtain ⟨g, cap', rfl, hbg, hgl⟩ := World.ownsRow.form ho (by rw [HN.out]; omega)
  rw [HN.out]
  have HO : Hid (w2.ownsRow w.heap.size 5 1 (.slice (some ⟨g, 0, none⟩) (a + s) cap') (a + s) (l.map (Value.int .u8))) := by have := ho; unfold OwnV at this; rw [HN.out] at this; exact this
  clear ho
  go_wp2_with fail
  refine (rget_yes (some ⟨b, off, none⟩) (a + s) l (a + s) a s _ (HR.out.below HB2.out) HN.out hin).mono ?_
  rintro e w3 ⟨rfl, hb3⟩
  have HO3 := Lib.hid (World.ownsRow.kept HO.out (grown_of_below hb3) (Classical.em _))
  have HB3 : Hid (Below w.heap.size w w3) := HB2.out.trans (hb3.mono HB2.out.size)
  clear hb3
  go_wp2_with fail
  refine (put_yes g (a + s) cap' a s v l _ _ h0 h1 (by omega) hin HO3.out).mono ?_
  rintro e w4 ⟨rfl, ho4, hb4⟩
  have HB4 : Hid (Below w.heap.size w w4) := HB3.out.trans hb4
  have hll : (lay l a (byt v s)).length = (a + s) := by rw [lay_len _ _ _ (by rw [byt_len, HN.out]; exact b1), HN.out]
  have hr4 : ∃ A'' cap'', Value.slice (some ⟨g, 0, none⟩) (a + s) cap' = .slice A'' (lay l a (byt v s)).length cap'' ∧ Rd w4 A'' (lay l a (byt v s)) := OwnV.rd (by unfold OwnV; rw [hll]; exact ho4) (lay_Byt _ HR.out.1 (byt_Byt _ _)) (by rw [hll]; omega)
  have HR4 : Hid (Rd w4 (some ⟨g, 0, none⟩) (lay l a (byt v s))) := by
    obtain ⟨A'', cap'', e, h⟩ := hr4
    injection e with e1 _ _
    rw [e1]; exact h
  have HLL := Lib.hid hll
  clear ho4 hb4 hr4 hll
  have hrb : Rd w4.drew (some ⟨b, off, none⟩) l := HR.out.below HB4.out.drew
  have hro : Rd w4.drew (some ⟨g, 0, none⟩) (lay l a (byt v s)) := HR4.out.below (Below.refl _ _).drew
  have HRB := Lib.hid hrb; have HRO := Lib.hid hro; clear hrb hro
  have ew : IntKind.i64.wrap ((a : Int) + (s : Int)) = (a : Int) + (s : Int) := IntWalk.i64_in _ (by omega)
  have en : (0 : Int) ≤ (a : Int) + (s : Int) := by omega
  have et : ((a : Int) + (s : Int)).toNat = a + s := by omega
  have hq1 := HRO.out.conv (a + s) cap' HLL.out
  have hq2 := (HRB.out.upto a).conv a (a + s) (by rw [List.length_take, HN.out]; omega)
  have hq3 : (convert 22 9 (.slice (some ⟨b, off, none⟩) 0 0)).run Try.prog w4.drew = .ok (.string (strOfNums (l.drop (a + s)))) w4.drew := by rw [List.drop_of_length_le (by rw [HN.out]; exact Nat.le_refl _)]; exact Rd.conv (l := []) ⟨Byt.nil, by decide, fun h => by simp at h⟩ 0 0 rfl
  have f1 : ∀ w0 : World, (Op.stringOp .add (strOfNums (l.take a)) (strOfNums (byt v s))).run Try.prog w0 = .ok (.string (strOfNums (l.take a ++ byt v s))) w0 := fun w0 => by
    rw [run_string_add_sum _ _ _ (by rw [strOfNums_size, strOfNums_size, byt_len, List.length_take]; omega), strOfNums_app]
  have f2 : ∀ w0 : World, (Op.stringOp .add (strOfNums (l.take a ++ byt v s)) (strOfNums (l.drop (a + s)))).run Try.prog w0 = .ok (.string (strOfNums (lay l a (byt v s)))) w0 := fun w0 => by
    rw [run_string_add_sum _ _ _ (by rw [strOfNums_size, strOfNums_size, List.length_append, byt_len, List.length_take, List.length_drop]; have := HN.out; omega), ← strOfNums_app, lay, byt_len]
  have hca : a ≤ (a + s) := by omega
  have hai : (a : Int) ≤ (a : Int) + (s : Int) := by omega
  have hcn : (a : Int) + (s : Int) ≤ ((a + s) : Int) := by omega
  have hcas : a + s ≤ (a + s) := by omega
  go_wp2_with fail
  refine wp_region_held_drew (S := fun w' => (convert 22 9 (.slice (some ⟨g, 0, none⟩) (a + s) cap')).run Try.prog w' = .ok (.string (strOfNums (lay l a (byt v s)))) w' ∧ (convert 22 9 (.slice (some ⟨b, off, none⟩) a (a + s))).run Try.prog w' = .ok (.string (strOfNums (l.take a))) w' ∧ (convert 22 9 (.slice (some ⟨b, off, none⟩) 0 0)).run Try.prog w' = .ok (.string (strOfNums (l.drop (a + s)))) w') (by kernel_rfl) ⟨hq1, hq2, hq3⟩ (fun hHeld => ?_)
  clear hq1 hq2 hq3
  simp only [List.size_toArray, List.length_cons, List.length_nil, Nat.reduceAdd]
  rw [show Array.replicate 20 false = [false, false, false, false, false, false, false, false, false, false, false, false, false, false, false, false, false, false, false, false].toArray from rfl]
  refine wpAnyH_take (i := 0) (v := ?_) rfl (by kernel_rfl) (by kernel_rfl) (by kernel_rfl) (fun _ _ _ h => h) (Or.inl ⟨by rfl, ?yldq⟩) (by assumption) ?_
  case yldq => (intro w hSw; (try dsimp only at hSw); go_simp; try with_reducible rfl)
  try simp only [Act.put, List.setIfInBounds_toArray, List.set_cons_zero, List.set_cons_succ, List.getElem_toArray, List.getElem_cons_succ, List.getElem_cons_zero]
  refine wpAnyH_take (i := 1) (v := ?_) rfl (by kernel_rfl) (by kernel_rfl) (by kernel_rfl) (fun _ _ _ h => h) (Or.inl ⟨by rfl, ?yldq⟩) (by assumption) ?_
  case yldq => (intro w hSw; (try dsimp only at hSw); go_simp; try with_reducible rfl)
  try simp only [Act.put, List.setIfInBounds_toArray, List.set_cons_zero, List.set_cons_succ, List.getElem_toArray, List.getElem_cons_succ, List.getElem_cons_zero]
  refine wpAnyH_take (i := 2) (v := ?_) rfl (by kernel_rfl) (by kernel_rfl) (by kernel_rfl) (fun _ _ _ h => h) (Or.inl ⟨by rfl, ?yldq⟩) (by assumption) ?_
  case yldq => (intro w hSw; (try dsimp only at hSw); go_simp; try with_reducible rfl)
  try simp only [Act.put, List.setIfInBounds_toArray, List.set_cons_zero, List.set_cons_succ, List.getElem_toArray, List.getElem_cons_succ, List.getElem_cons_zero]
  refine wpAnyH_take (i := 3) (v := ?_) rfl (by kernel_rfl) (by kernel_rfl) (by kernel_rfl) (fun _ _ _ h => h) (Or.inl ⟨by rfl, ?yldq⟩) (by assumption) ?_
  case yldq => (intro w hSw; (try dsimp only at hSw); go_simp; try with_reducible rfl)
  try simp only [Act.put, List.setIfInBounds_toArray, List.set_cons_zero, List.set_cons_succ, List.getElem_toArray, List.getElem_cons_succ, List.getElem_cons_zero]
  refine wpAnyH_take (i := 4) (v := ?_) rfl (by kernel_rfl) (by kernel_rfl) (by kernel_rfl) (fun _ _ _ h => h) (Or.inl ⟨by rfl, ?yldq⟩) (by assumption) ?_
  case yldq => (intro w hSw; (try dsimp only at hSw); go_simp; try with_reducible rfl)
  try simp only [Act.put, List.setIfInBounds_toArray, List.set_cons_zero, List.set_cons_succ, List.getElem_toArray, List.getElem_cons_succ, List.getElem_cons_zero]
  refine wpAnyH_take (i := 5) (v := ?_) rfl (by kernel_rfl) (by kernel_rfl) (by kernel_rfl) (fun _ _ _ h => h) (Or.inl ⟨by rfl, ?yldq⟩) (by assumption) ?_
  case yldq => (intro w hSw; (try dsimp only at hSw); go_simp; try with_reducible rfl)
  try simp only [Act.put, List.setIfInBounds_toArray, List.set_cons_zero, List.set_cons_succ, List.getElem_toArray, List.getElem_cons_succ, List.getElem_cons_zero]
  refine wpAnyH_take (i := 6) (v := ?_) rfl (by kernel_rfl) (by kernel_rfl) (by kernel_rfl) (fun _ _ _ h => h) (Or.inl ⟨by rfl, ?yldq⟩) (by assumption) ?_
  case yldq => (intro w hSw; (try dsimp only at hSw); go_simp; try with_reducible rfl)
  try simp only [Act.put, List.setIfInBounds_toArray, List.set_cons_zero, List.set_cons_succ, List.getElem_toArray, List.getElem_cons_succ, List.getElem_cons_zero]
  refine wpAnyH_take (i := 7) (v := ?_) rfl (by kernel_rfl) (by kernel_rfl) (by kernel_rfl) (fun _ _ _ h => h) (Or.inl ⟨by rfl, ?yldq⟩) (by assumption) ?_
  case yldq => (intro w hSw; (try dsimp only at hSw); go_simp; try with_reducible rfl)
  try simp only [Act.put, List.setIfInBounds_toArray, List.set_cons_zero, List.set_cons_succ, List.getElem_toArray, List.getElem_cons_succ, List.getElem_cons_zero]
  refine wpAnyH_take (i := 11) (v := ?_) rfl (by kernel_rfl) (by kernel_rfl) (by kernel_rfl) (fun _ _ _ h => h) (Or.inl ⟨by rfl, ?yldq⟩) (by assumption) ?_
  case yldq => (intro w hSw; (try dsimp only at hSw); go_simp; try with_reducible rfl)
  try simp only [Act.put, List.setIfInBounds_toArray, List.set_cons_zero, List.set_cons_succ, List.getElem_toArray, List.getElem_cons_succ, List.getElem_cons_zero]
  refine wpAnyH_take (i := 12) (v := ?_) rfl (by kernel_rfl) (by kernel_rfl) (by kernel_rfl) (fun _ _ _ h => h) (Or.inl ⟨by rfl, ?yldq⟩) (by assumption) ?_
  case yldq => (intro w hSw; (try dsimp only at hSw); go_simp; try with_reducible rfl)
  try simp only [Act.put, List.setIfInBounds_toArray, List.set_cons_zero, List.set_cons_succ, List.getElem_toArray, List.getElem_cons_succ, List.getElem_cons_zero]
  refine wpAnyH_take (i := 13) (v := ?_) rfl (by kernel_rfl) (by kernel_rfl) (by kernel_rfl) (fun _ _ _ h => h) (Or.inl ⟨by rfl, ?yldq⟩) (by assumption) ?_
  case yldq => (intro w hSw; (try dsimp only at hSw); go_simp; try with_reducible rfl)
  try simp only [Act.put, List.setIfInBounds_toArray, List.set_cons_zero, List.set_cons_succ, List.getElem_toArray, List.getElem_cons_succ, List.getElem_cons_zero]
  refine wpAnyH_take (i := 14) (v := ?_) rfl (by kernel_rfl) (by kernel_rfl) (by kernel_rfl) (fun _ _ _ h => h) (Or.inl ⟨by rfl, ?yldq⟩) (by assumption) ?_
  case yldq => (intro w hSw; (try dsimp only at hSw); go_simp; try with_reducible rfl)
  try simp only [Act.put, List.setIfInBounds_toArray, List.set_cons_zero, List.set_cons_succ, List.getElem_toArray, List.getElem_cons_succ, List.getElem_cons_zero]
  refine wpAnyH_take (i := 15) (v := ?_) rfl (by kernel_rfl) (by kernel_rfl) (by kernel_rfl) (fun _ _ _ h => h) (Or.inl ⟨by rfl, ?yldq⟩) (by assumption) ?_
  case yldq => (intro w hSw; (try dsimp only at hSw); go_simp; try with_reducible rfl)
  try simp only [Act.put, List.setIfInBounds_toArray, List.set_cons_zero, List.set_cons_succ, List.getElem_toArray, List.getElem_cons_succ, List.getElem_cons_zero]
  refine wpAnyH_take (i := 16) (v := ?_) rfl (by kernel_rfl) (by kernel_rfl) (by kernel_rfl) (fun _ _ _ h => h) (Or.inl ⟨by rfl, ?yldq⟩) (by assumption) ?_
  case yldq => (intro w hSw; (try dsimp only at hSw); go_simp; try with_reducible rfl)
  try simp only [Act.put, List.setIfInBounds_toArray, List.set_cons_zero, List.set_cons_succ, List.getElem_toArray, List.getElem_cons_succ, List.getElem_cons_zero]
  refine wpAnyH_ready (rs := [8]) (by kernel_rfl) (by simp) ?_
  refine AllReadyH.cons rfl (fun K hK => ?_) AllReadyH.nil
  go_simp
  refine (rbytes_yes _ _ _ hsz h0 h1).mono ?_
  rintro e w5 ⟨y5, rfl, hy5, hb5⟩
  obtain ⟨A5, cap5, rfl, hr5⟩ := hy5.rd (byt_Byt _ _) (by rw [byt_len]; omega)
  have d5 := hr5.conv _ cap5 rfl
  have hS5 : ((convert 22 9 (.slice (some ⟨g, 0, none⟩) (a + s) cap')).run Try.prog w5 = .ok (.string (strOfNums (lay l a (byt v s)))) w5 ∧ (convert 22 9 (.slice (some ⟨b, off, none⟩) a (a + s))).run Try.prog w5 = .ok (.string (strOfNums (l.take a))) w5 ∧ (convert 22 9 (.slice (some ⟨b, off, none⟩) 0 0)).run Try.prog w5 = .ok (.string (strOfNums (l.drop (a + s)))) w5) := ⟨(HRO.out.below hb5).conv (a + s) cap' HLL.out, ((HRB.out.below hb5).upto a).conv a (a + s) (by rw [List.length_take, HN.out]; omega), by rw [List.drop_of_length_le (by rw [HN.out]; exact Nat.le_refl _)]; exact Rd.conv (l := []) ⟨Byt.nil, by decide, fun h => by simp at h⟩ 0 0 rfl⟩
  have HB5 : Hid (Below w.heap.size w w5) := HB4.out.drew.trans (hb5.mono HB4.out.drew.size)
  clear hb5 hr5 hy5
  refine hK.out _ _ hS5 (fun _ => ?_)
  clear hK K
  refine wpAnyH_more (S' := fun w' => (convert 22 9 (.slice A5 (byt v s).length cap5)).run Try.prog w' = .ok (.string (strOfNums (byt v s))) w' ∧ ((convert 22 9 (.slice (some ⟨g, 0, none⟩) (a + s) cap')).run Try.prog w' = .ok (.string (strOfNums (lay l a (byt v s)))) w' ∧ (convert 22 9 (.slice (some ⟨b, off, none⟩) a (a + s))).run Try.prog w' = .ok (.string (strOfNums (l.take a))) w' ∧ (convert 22 9 (.slice (some ⟨b, off, none⟩) 0 0)).run Try.prog w' = .ok (.string (strOfNums (l.drop (a + s)))) w')) (fun w' h => h.2) _ _ _ _ ?_
  have hS6 := And.intro d5 hS5
  clear d5 hS5 hHeld
  refine wpAnyH_take (i := 9) (v := ?_) rfl (by kernel_rfl) (by kernel_rfl) (by kernel_rfl) (fun _ _ _ h => h) (Or.inl ⟨by rfl, ?yldq⟩) (by assumption) ?_
  case yldq => (intro w hSw; (try dsimp only at hSw); go_simp; try with_reducible rfl)
  try simp only [Act.put, List.setIfInBounds_toArray, List.set_cons_zero, List.set_cons_succ, List.getElem_toArray, List.getElem_cons_succ, List.getElem_cons_zero]
  refine wpAnyH_take (i := 10) (v := ?_) rfl (by kernel_rfl) (by kernel_rfl) (by kernel_rfl) (fun _ _ _ h => h) (Or.inl ⟨by rfl, ?yldq⟩) (by assumption) ?_
  case yldq => (intro w hSw; (try dsimp only at hSw); go_simp; try with_reducible rfl)
  try simp only [Act.put, List.setIfInBounds_toArray, List.set_cons_zero, List.set_cons_succ, List.getElem_toArray, List.getElem_cons_succ, List.getElem_cons_zero]
  refine wpAnyH_take (i := 17) (v := ?_) rfl (by kernel_rfl) (by kernel_rfl) (by kernel_rfl) (fun _ _ _ h => h) (Or.inl ⟨by rfl, ?yldq⟩) (by assumption) ?_
  case yldq => (intro w hSw; (try dsimp only at hSw); go_simp; try with_reducible rfl)
  try simp only [Act.put, List.setIfInBounds_toArray, List.set_cons_zero, List.set_cons_succ, List.getElem_toArray, List.getElem_cons_succ, List.getElem_cons_zero]
  refine wpAnyH_take (i := 18) (v := ?_) rfl (by kernel_rfl) (by kernel_rfl) (by kernel_rfl) (fun _ _ _ h => h) (Or.inl ⟨by rfl, ?yldq⟩) (by assumption) ?_
  case yldq => (intro w hSw; (try dsimp only at hSw); go_simp; try with_reducible rfl)
  try simp only [Act.put, List.setIfInBounds_toArray, List.set_cons_zero, List.set_cons_succ, List.getElem_toArray, List.getElem_cons_succ, List.getElem_cons_zero]
  refine wpAnyH_take (i := 19) (v := ?_) rfl (by kernel_rfl) (by kernel_rfl) (by kernel_rfl) (fun _ _ _ h => h) (Or.inl ⟨by rfl, ?yldq⟩) (by assumption) ?_
  case yldq => (intro w hSw; (try dsimp only at hSw); go_simp; try with_reducible rfl)
  try simp only [Act.put, List.setIfInBounds_toArray, List.set_cons_zero, List.set_cons_succ, List.getElem_toArray, List.getElem_cons_succ, List.getElem_cons_zero]
  refine wpAnyH_done (by kernel_rfl) ?_ _
  clear hS6
  go_wp2
  go_ret
  exact ⟨by simp, HB5.out⟩
theorem puts_walk (A : Option Addr) (n cap : Nat) (l : List Int) (a s v : Int) (w : World) (hr : Rd w A l) (hn : l.length = n) (hm : n ≤ 140737488351232) (hnc : n ≤ cap) (hcm : cap ≤ 9223372036854775807) (hA : A = none → cap = 0) (h0 : 0 ≤ v) (h1 : v ≤ 18446744073709551615) :
    Calls Try.prog 4 #[.slice A n cap, .agg #[.int .i64 a, .int .i64 s], .int .u64 v] w fun e w' => e = .returned (.bool true) ∧ Below w.heap.size w w' := by
  rcases A with _ | ad
  · obtain rfl := hA rfl
    obtain rfl : n = 0 := by omega
    exact puts_nil a s v w h0 h1
  · by_cases hin : InB n a s
    · obtain ⟨s', rfl, _⟩ := hin.1.nat
      obtain ⟨a', rfl⟩ : ∃ a' : Nat, a = a' := ⟨a.toNat, by have := hin.2.1; omega⟩
      have hpos : 0 < l.length := by have := hin.2; have := hin.1; unfold SzI at this; omega
      obtain ⟨b, off, e, _⟩ := hr.2.2 hpos
      injection e with e
      subst e
      by_cases hl : cap = a' + s'
      · subst hl
        obtain rfl : n = a' + s' := by have := hin.2.2; omega
        exact puts_last b off l a' s' v w hr hn hm hin h0 h1
      · exact puts_in b off n cap l a' s' v w hr hn hm hnc hcm hin hl h0 h1
    · exact puts_no ad n cap l a s v w hr hn hm hin h0 h1
end Go.Proofs.Ytebhglenoaadjaa
