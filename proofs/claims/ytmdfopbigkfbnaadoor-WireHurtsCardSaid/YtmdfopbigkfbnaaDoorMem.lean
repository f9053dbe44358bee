/-
  Slices of bytes in memory: what reads as a list of numbers, what is a call's own; no function of the program stands here.
-/
import Derived.Test.YtmdfopbigkfbnaaDoorProg
import Derived.Test.YtmdfopbigkfbnaaDoorPlain
import Derived.WalkKit
import Derived.WalkLawsBesides
import Derived.WalkSpells
import Derived.Lib.Hide
import Derived.Below
import Derived.OpenShut
import Derived.Deep.Onto
import Derived.Laws.BytesArg
import Derived.Deep.RegionWith
import Derived.Deep.RegionHeld3
namespace Go.Proofs.YtmdfopbigkfbnaaDoor
open Go.RowKit
set_option linter.unusedVariables false

def Rd (w : World) (A : Option Addr) (l : List Int) : Prop :=
  Byt l ∧ l.length ≤ 9223372036854775807 ∧ (0 < l.length → ∃ b off, A = some ⟨b, off, none⟩ ∧ ∀ i, i < l.length → w.cell? ⟨b, off + i, none⟩ = some (.int .u8 (l.getD i 0)))
def MadeV (B : Nat) (l : List Int) (v : Value) (w : World) : Prop :=
  ∃ g cap, v = .slice (some ⟨g, 0, none⟩) l.length cap ∧ w.ownsRow B 5 1 (.slice (some ⟨g, 0, none⟩) l.length cap) l.length (l.map (Value.int .u8))
def Made (B : Nat) (l : List Int) (e : Ending) (w w' : World) : Prop := ∃ v, e = .returned v ∧ MadeV B l v w' ∧ Below B w w'
theorem info_u8 : (Tryd.prog.info? 5).map (fun i => (i.zero, i.size, i.bytes)) = some (some (.int .u8 0), 1, 1) := by kernel_rfl
theorem cell_lt {w : World} {b o : Nat} {v : Value} (h : w.cell? ⟨b, o, none⟩ = some v) : b < w.heap.size := by
  rcases Nat.lt_or_ge b w.heap.size with hlt | hge
  · exact hlt
  · have : w.cell? ⟨b, o, none⟩ = none := by simp [World.cell?, Array.getElem?_eq_none hge]
    rw [this] at h; cases h
theorem Rd.below {w w' : World} {A : Option Addr} {l : List Int} (h : Rd w A l) (hb : Below w.heap.size w w') : Rd w' A l := by
  refine ⟨h.1, h.2.1, fun hl => ?_⟩
  obtain ⟨b, off, rfl, hc⟩ := h.2.2 hl
  exact ⟨b, off, rfl, fun i hi => (hb.cell (p := ⟨b, off + i, none⟩) (cell_lt (hc i hi))).trans (hc i hi)⟩
def OwnV (B : Nat) (l : List Int) (v : Value) (w : World) : Prop := w.ownsRow B 5 1 v l.length (l.map (Value.int .u8))
def Owned (B : Nat) (l : List Int) (e : Ending) (w w' : World) : Prop := ∃ v, e = .returned v ∧ OwnV B l v w' ∧ Below B w w'
theorem grown_of_below {w w' : World} (h : Below w.heap.size w w') : w.grownBy w' none := ⟨h.os, h.tape, h.output, h.size, fun k hk _ => h.block k hk⟩
theorem OwnV.below {B : Nat} {l : List Int} {v : Value} {w w' : World} (h : OwnV B l v w) (hb : Below w.heap.size w w') : OwnV B l v w' := World.ownsRow.kept h (grown_of_below hb) (Classical.em _)
theorem OwnV.rd {B : Nat} {l : List Int} {v : Value} {w : World} (h : OwnV B l v w) (hb : Byt l) (hm : l.length ≤ 9223372036854775807) : ∃ A cap, v = .slice A l.length cap ∧ Rd w A l := by
  unfold OwnV at h
  rcases h.2 with ⟨rfl, h0⟩ | ⟨g, cap, cur, rfl, _, hg, hn, _, hcs, ht⟩
  · rw [h0]; exact ⟨none, 0, rfl, hb, hm, fun hl => by omega⟩
  · refine ⟨_, cap, rfl, hb, hm, fun _ => ⟨g, 0, rfl, fun i hi => ?_⟩⟩
    rw [Nat.zero_add, cell_of_row w g i cur _ _ hg]
    have e : (cur.toList.take (l.length * 1))[i]? = some (.int .u8 (l.getD i 0)) := by
      rw [ht, List.getElem?_map, List.getD_eq_getElem?_getD, List.getElem?_eq_getElem hi]; rfl
    rw [List.getElem?_take_of_lt (by omega)] at e
    simpa using e
theorem MadeV.own {B : Nat} {l : List Int} {v : Value} {w : World} (h : MadeV B l v w) : OwnV B l v w := by
  obtain ⟨g, cap, rfl, h⟩ := h; exact h
theorem Rd.conv {w : World} {A : Option Addr} {l : List Int} (h : Rd w A l) (n cap : Nat) (hn : l.length = n) : (convert 23 9 (.slice A n cap)).run Tryd.prog w = .ok (.string (strOfNums l)) w := by
  subst hn
  by_cases hl : 0 < l.length
  · obtain ⟨b, off, rfl, hc⟩ := h.2.2 hl
    exact run_convert_bytes_arg w 23 5 Tryd.underlying23 Tryd.underlying5 b off _ cap l rfl hc _ Tryd.underlying9
  · obtain rfl : l = [] := List.length_eq_zero_iff.1 (by omega)
    rw [run_convert_bytes_string w 23 9 5 _ _ cap Tryd.underlying23 Tryd.underlying5 Tryd.underlying9]
    cases A with
    | none => simp [Conv.bytesToString, strOfNums]; rfl
    | some a =>
      have hl : (loadCells a 0).run Tryd.prog w = .ok (([] : List Int).map (Value.int .u8)).toArray w := run_loadCells_list (P := Tryd.prog) w a [] (fun j v hj => by simp at hj)
      exact run_bytesToString w a 0 cap [] hl
theorem rd_new (w : World) (cs : List Int) (n : Nat) (h : Byt cs) (hn : cs.length = n) (hm : n ≤ 9223372036854775807) : Rd (w.alloc (.cells (cs.map (Value.int .u8)).toArray 5)) (some ⟨w.heap.size, 0, none⟩) cs := by
  subst hn
  refine ⟨h, hm, fun _ => ⟨w.heap.size, 0, rfl, fun i hi => ?_⟩⟩
  rw [Nat.zero_add, cell_of_row (w.alloc (.cells (cs.map (Value.int .u8)).toArray 5)) w.heap.size i _ 5 (0, 0) (heap_alloc_new w _)]
  simp [List.getD_eq_getElem?_getD, hi]
theorem rd_of_row {w : World} {a : Option Addr} {len cap : Nat} {zs : List Int}
    (h : (a = none ∧ len = 0 ∧ cap = 0 ∧ zs = []) ∨ ∃ x, a = some x ∧ len ≤ cap ∧ cap ≤ maxLen ∧ zs.length = cap ∧ (∀ i, i < zs.length → w.cell? (x.add i) = some (.int .u8 (zs.getD i 0))) ∧ ∀ n ∈ zs, (Lit.int .u8 n).wf = true) :
    Rd w a (zs.take len) ∧ (zs.take len).length = len := by
  rcases h with ⟨rfl, rfl, rfl, rfl⟩ | ⟨x, rfl, hl, hm, hz, hc, hw⟩
  · exact ⟨⟨Byt.nil, by simp, fun h => by simp at h⟩, rfl⟩
  · have e : (zs.take len).length = len := by rw [List.length_take]; omega
    unfold maxLen at hm
    refine ⟨⟨fun n hn => ?_, by omega, fun h0 => ?_⟩, e⟩
    · have := hw n (List.mem_of_mem_take hn)
      simpa [Lit.wf, IntKind.min, IntKind.max, IntKind.signed, IntKind.bits] using this
    · obtain ⟨b, off, rfl, hc'⟩ := ints_at hc (by omega)
      refine ⟨b, off, rfl, fun i hi => ?_⟩
      rw [hc' i (by omega), List.getD_eq_getElem?_getD, List.getD_eq_getElem?_getD, List.getElem?_take_of_lt (by omega)]
theorem sz1 : SzI 1 := .inl rfl
theorem sz2 : SzI 2 := .inr (.inl rfl)
theorem sz4 : SzI 4 := .inr (.inr (.inl rfl))
theorem sz8 : SzI 8 := .inr (.inr (.inr rfl))
/-- a row of the call's own known whole -/
theorem row_full {w : World} {B g n t : Nat} {xs : List Value} (h : w.ownsRow B t 1 (.slice (some ⟨g, 0, none⟩) n n) n xs) : w.heap[g]? = some (.cells xs.toArray t (0, 0)) ∧ B ≤ g ∧ n ≤ maxLen ∧ xs.length = n := by
  obtain ⟨h1, h2⟩ := h
  rw [Nat.mul_one] at h1
  rcases h2 with ⟨e, _⟩ | ⟨g', cap, cur, e, hB, hg, hn, hm, hcs, ht⟩
  · cases e
  · injection e with e1 e2 e3
    injection e1 with e1
    injection e1 with e1
    subst e1 e3
    rw [Nat.mul_one] at hcs ht
    refine ⟨?_, hB, hm, h1⟩
    rw [hg, ← ht, List.take_of_length_le (by simp [hcs])]
theorem full_row {w : World} {B g n t : Nat} {xs : List Value} (hg : w.heap[g]? = some (.cells xs.toArray t (0, 0))) (hB : B ≤ g) (hm : n ≤ maxLen) (hl : xs.length = n) : w.ownsRow B t 1 (.slice (some ⟨g, 0, none⟩) n n) n xs :=
  ⟨by rw [hl, Nat.mul_one], .inr ⟨g, n, xs.toArray, rfl, hB, hg, Nat.le_refl _, hm, by simp [hl], by rw [Nat.mul_one, ← hl]; simp⟩⟩
/-- what a copy out of it takes -/
theorem Rd.src {w : World} {A : Option Addr} {l : List Int} (h : Rd w A l) (h0 : 0 < l.length) : ∃ ad, A = some ad ∧ ∀ j v, (l.map (Value.int .u8))[j]? = some v → w.cell? (ad.add j) = some v := by
  obtain ⟨b, off, rfl, hc⟩ := h.2.2 h0
  refine ⟨_, rfl, fun j v hv => ?_⟩
  rw [List.getElem?_map] at hv
  rcases Nat.lt_or_ge j l.length with hj | hj
  · rw [List.getElem?_eq_getElem hj] at hv
    have := hc j hj
    rw [List.getD_eq_getElem?_getD, List.getElem?_eq_getElem hj] at this
    have e : (⟨b, off, none⟩ : Addr).add j = ⟨b, off + j, none⟩ := by
      unfold Addr.add; split
      · rename_i h; rw [h]; rfl
      · rfl
    rw [e, this]; exact hv
  · rw [List.getElem?_eq_none hj] at hv; cases hv
/-- a slice cut off behind, resp. in front -/
theorem Rd.upto {w : World} {A : Option Addr} {l : List Int} (h : Rd w A l) (k : Nat) : Rd w A (l.take k) := by
  refine ⟨h.1.take k, by rw [List.length_take]; have := h.2.1; omega, fun h0 => ?_⟩
  rw [List.length_take] at h0
  obtain ⟨b, off, rfl, hc⟩ := h.2.2 (by omega)
  refine ⟨b, off, rfl, fun i hi => ?_⟩
  rw [List.length_take] at hi
  rw [hc i (by omega), List.getD_eq_getElem?_getD, List.getD_eq_getElem?_getD, List.getElem?_take_of_lt (by omega)]
theorem Rd.from_ {w : World} {b off : Nat} {l : List Int} (h : Rd w (some ⟨b, off, none⟩) l) (k : Nat) : Rd w (some ⟨b, off + k, none⟩) (l.drop k) := by
  refine ⟨h.1.drop k, by have := h.2.1; rw [List.length_drop]; omega, fun hl => ?_⟩
  rw [List.length_drop] at hl
  obtain ⟨b', off', e, hc⟩ := h.2.2 (by omega)
  injection e with e
  injection e with e1 e2 _
  subst e1; subst e2
  refine ⟨b, off + k, rfl, fun i hi => ?_⟩
  rw [List.length_drop] at hi
  rw [Nat.add_assoc, hc (k + i) (by omega), List.getD_eq_getElem?_getD, List.getD_eq_getElem?_getD, List.getElem?_drop]
theorem wpAnyH_more {P : Program} {ops : Array Oper} {Q : Exit → Act → World → Prop} {md : Region.Mode} {S S' : World → Prop} (hS : ∀ w, S' w → S w) :
    ∀ (fuel : Nat) (listed : Array Bool) (a : Act) (w : World), wpAnyH P md ops Q S' fuel listed a w → wpAnyH P md ops Q S fuel listed a w
  | 0, _, _, _, h => h
  | fuel + 1, _, _, _, h => ⟨h.1, fun i hi => wpOp_mono (fun a' w' h' => ⟨hS _ h'.1, wpAnyH_more hS fuel _ a' w' h'.2⟩) (h.2 i hi)⟩
theorem below_drewNs {B : Nat} {a w : World} (h : Below B a w) : ∀ n, Below B a (w.drewN n)
  | 0 => h
  | n + 1 => (below_drewNs h n).drew
theorem strOfNums_app (x y : List Int) : strOfNums (x ++ y) = strOfNums x ++ strOfNums y := by
  have e : ∀ s t : ByteArray, s.data.toList = t.data.toList → s = t := fun s t h => by
    cases s; cases t; simp at h; subst h; rfl
  apply e
  simp [strOfNums]
theorem Rd.cells {w : World} {ad : Addr} {l : List Int} (h : Rd w (some ad) l) (j : Nat) (u : Value) (hj : (l.map (Value.int .u8))[j]? = some u) : w.cell? (ad.add j) = some u := by
  have hl : j < l.length := by
    rcases Nat.lt_or_ge j l.length with h' | h'
    · exact h'
    · rw [List.getElem?_eq_none (by simpa using h')] at hj; cases hj
  obtain ⟨b, off, e, hc⟩ := h.2.2 (by omega)
  injection e with e
  subst e
  rw [Go.WideShapes.add_plain, hc j hl, ← hj, List.getElem?_map, List.getD_eq_getElem?_getD, List.getElem?_eq_getElem hl]; rfl
theorem str_inj : ∀ {l m : List Int}, Byt l → Byt m → strOfNums l = strOfNums m → l = m := by
  intro l m hl hm h
  have h1 : l.map (fun n => UInt8.ofNat n.toNat) = m.map (fun n => UInt8.ofNat n.toNat) := by
    rw [← strOfNums_data, ← strOfNums_data, h]
  clear h
  induction l generalizing m with
  | nil => cases m with
    | nil => rfl
    | cons b r => simp at h1
  | cons a l ih => cases m with
    | nil => simp at h1
    | cons b r =>
      simp only [List.map_cons, List.cons.injEq] at h1
      have ha := hl a (by simp)
      have hb := hm b (by simp)
      have h2 := congrArg UInt8.toNat h1.1
      simp only [UInt8.toNat_ofNat'] at h2
      rw [show a = b from by omega, ih hl.tail hm.tail h1.2]
end Go.Proofs.YtmdfopbigkfbnaaDoor
