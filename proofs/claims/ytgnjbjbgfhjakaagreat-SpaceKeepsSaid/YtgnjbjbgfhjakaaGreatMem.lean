/-
  Slices of bytes in memory: what reads as a list of numbers, what is a call's own; no function of the program stands here.
-/
import Derived.Test.YtgnjbjbgfhjakaaGreatProg
import Derived.Test.YtgnjbjbgfhjakaaGreatPlain
import Derived.WalkKit
import Derived.WalkLawsBesides
import Derived.WalkSpells
import Derived.Lib.Hide
import Derived.Below
import Derived.OpenShut
import Derived.Deep.Onto
import Derived.Laws.BytesArg
import Derived.Deep.RegionWith
import Derived.Deep.RegionHeld3
namespace Go.Proofs.YtgnjbjbgfhjakaaGreat
open Go.RowKit
set_option linter.unusedVariables false

def Rd (w : World) (A : Option Addr) (l : List Int) : Prop :=
  Byt l ∧ l.length ≤ 9223372036854775807 ∧ (0 < l.length → ∃ b off, A = some ⟨b, off, none⟩ ∧ ∀ i, i < l.length → w.cell? ⟨b, off + i, none⟩ = some (.int .u8 (l.getD i 0)))
def MadeV (B : Nat) (l : List Int) (v : Value) (w : World) : Prop :=
  ∃ g cap, v = .slice (some ⟨g, 0, none⟩) l.length cap ∧ w.ownsRow B 5 1 (.slice (some ⟨g, 0, none⟩) l.length cap) l.length (l.map (Value.int .u8))
def Made (B : Nat) (l : List Int) (e : Ending) (w w' : World) : Prop := ∃ v, e = .returned v ∧ MadeV B l v w' ∧ Below B w w'
theorem info_u8 : (Tryz.prog.info? 5).map (fun i => (i.zero, i.size, i.bytes)) = some (some (.int .u8 0), 1, 1) := by kernel_rfl
theorem cell_lt {w : World} {b o : Nat} {v : Value} (h : w.cell? ⟨b, o, none⟩ = some v) : b < w.heap.size := by
  rcases Nat.lt_or_ge b w.heap.size with hlt | hge
  · exact hlt
  · have : w.cell? ⟨b, o, none⟩ = none := by simp [World.cell?, Array.getElem?_eq_none hge]
    rw [this] at h; cases h
theorem Rd.below {w w' : World} {A : Option Addr} {l : List Int} (h : Rd w A l) (hb : Below w.heap.size w w') : Rd w' A l := by
  refine ⟨h.1, h.2.1, fun hl => ?_⟩
  obtain ⟨b, off, rfl, hc⟩ := h.2.2 hl
  exact ⟨b, off, rfl, fun i hi => (hb.cell (p := ⟨b, off + i, none⟩) (cell_lt (hc i hi))).trans (hc i hi)⟩
def OwnV (B : Nat) (l : List Int) (v : Value) (w : World) : Prop := w.ownsRow B 5 1 v l.length (l.map (Value.int .u8))
def Owned (B : Nat) (l : List Int) (e : Ending) (w w' : World) : Prop := ∃ v, e = .returned v ∧ OwnV B l v w' ∧ Below B w w'
theorem grown_of_below {w w' : World} (h : Below w.heap.size w w') : w.grownBy w' none := ⟨h.os, h.tape, h.output, h.size, fun k hk _ => h.block k hk⟩
theorem OwnV.below {B : Nat} {l : List Int} {v : Value} {w w' : World} (h : OwnV B l v w) (hb : Below w.heap.size w w') : OwnV B l v w' := World.ownsRow.kept h (grown_of_below hb) (Classical.em _)
theorem MadeV.own {B : Nat} {l : List Int} {v : Value} {w : World} (h : MadeV B l v w) : OwnV B l v w := by
  obtain ⟨g, cap, rfl, h⟩ := h; exact h
theorem Rd.conv {w : World} {A : Option Addr} {l : List Int} (h : Rd w A l) (n cap : Nat) (hn : l.length = n) : (convert 52 9 (.slice A n cap)).run Tryz.prog w = .ok (.string (strOfNums l)) w := by
  subst hn
  by_cases hl : 0 < l.length
  · obtain ⟨b, off, rfl, hc⟩ := h.2.2 hl
    exact run_convert_bytes_arg w 52 5 Tryz.underlying52 Tryz.underlying5 b off _ cap l rfl hc _ Tryz.underlying9
  · obtain rfl : l = [] := List.length_eq_zero_iff.1 (by omega)
    rw [run_convert_bytes_string w 52 9 5 _ _ cap Tryz.underlying52 Tryz.underlying5 Tryz.underlying9]
    cases A with
    | none => simp [Conv.bytesToString, strOfNums]; rfl
    | some a =>
      have hl : (loadCells a 0).run Tryz.prog w = .ok (([] : List Int).map (Value.int .u8)).toArray w := run_loadCells_list (P := Tryz.prog) w a [] (fun j v hj => by simp at hj)
      exact run_bytesToString w a 0 cap [] hl
theorem rd_of_row {w : World} {a : Option Addr} {len cap : Nat} {zs : List Int}
    (h : (a = none ∧ len = 0 ∧ cap = 0 ∧ zs = []) ∨ ∃ x, a = some x ∧ len ≤ cap ∧ cap ≤ maxLen ∧ zs.length = cap ∧ (∀ i, i < zs.length → w.cell? (x.add i) = some (.int .u8 (zs.getD i 0))) ∧ ∀ n ∈ zs, (Lit.int .u8 n).wf = true) :
    Rd w a (zs.take len) ∧ (zs.take len).length = len := by
  rcases h with ⟨rfl, rfl, rfl, rfl⟩ | ⟨x, rfl, hl, hm, hz, hc, hw⟩
  · exact ⟨⟨Byt.nil, by simp, fun h => by simp at h⟩, rfl⟩
  · have e : (zs.take len).length = len := by rw [List.length_take]; omega
    unfold maxLen at hm
    refine ⟨⟨fun n hn => ?_, by omega, fun h0 => ?_⟩, e⟩
    · have := hw n (List.mem_of_mem_take hn)
      simpa [Lit.wf, IntKind.min, IntKind.max, IntKind.signed, IntKind.bits] using this
    · obtain ⟨b, off, rfl, hc'⟩ := ints_at hc (by omega)
      refine ⟨b, off, rfl, fun i hi => ?_⟩
      rw [hc' i (by omega), List.getD_eq_getElem?_getD, List.getD_eq_getElem?_getD, List.getElem?_take_of_lt (by omega)]
theorem sz8 : SzI 8 := .inr (.inr (.inr rfl))
/-- what a copy out of it takes -/
theorem Rd.src {w : World} {A : Option Addr} {l : List Int} (h : Rd w A l) (h0 : 0 < l.length) : ∃ ad, A = some ad ∧ ∀ j v, (l.map (Value.int .u8))[j]? = some v → w.cell? (ad.add j) = some v := by
  obtain ⟨b, off, rfl, hc⟩ := h.2.2 h0
  refine ⟨_, rfl, fun j v hv => ?_⟩
  rw [List.getElem?_map] at hv
  rcases Nat.lt_or_ge j l.length with hj | hj
  · rw [List.getElem?_eq_getElem hj] at hv
    have := hc j hj
    rw [List.getD_eq_getElem?_getD, List.getElem?_eq_getElem hj] at this
    have e : (⟨b, off, none⟩ : Addr).add j = ⟨b, off + j, none⟩ := by
      unfold Addr.add; split
      · rename_i h; rw [h]; rfl
      · rfl
    rw [e, this]; exact hv
  · rw [List.getElem?_eq_none hj] at hv; cases hv
/-- a slice cut off behind, resp. in front -/
theorem Rd.upto {w : World} {A : Option Addr} {l : List Int} (h : Rd w A l) (k : Nat) : Rd w A (l.take k) := by
  refine ⟨h.1.take k, by rw [List.length_take]; have := h.2.1; omega, fun h0 => ?_⟩
  rw [List.length_take] at h0
  obtain ⟨b, off, rfl, hc⟩ := h.2.2 (by omega)
  refine ⟨b, off, rfl, fun i hi => ?_⟩
  rw [List.length_take] at hi
  rw [hc i (by omega), List.getD_eq_getElem?_getD, List.getD_eq_getElem?_getD, List.getElem?_take_of_lt (by omega)]
theorem below_drewNs {B : Nat} {a w : World} (h : Below B a w) : ∀ n, Below B a (w.drewN n)
  | 0 => h
  | n + 1 => (below_drewNs h n).drew
theorem Rd.cells {w : World} {ad : Addr} {l : List Int} (h : Rd w (some ad) l) (j : Nat) (u : Value) (hj : (l.map (Value.int .u8))[j]? = some u) : w.cell? (ad.add j) = some u := by
  have hl : j < l.length := by
    rcases Nat.lt_or_ge j l.length with h' | h'
    · exact h'
    · rw [List.getElem?_eq_none (by simpa using h')] at hj; cases hj
  obtain ⟨b, off, e, hc⟩ := h.2.2 (by omega)
  injection e with e
  subst e
  rw [Go.WideShapes.add_plain, hc j hl, ← hj, List.getElem?_map, List.getD_eq_getElem?_getD, List.getElem?_eq_getElem hl]; rfl
end Go.Proofs.YtgnjbjbgfhjakaaGreat
