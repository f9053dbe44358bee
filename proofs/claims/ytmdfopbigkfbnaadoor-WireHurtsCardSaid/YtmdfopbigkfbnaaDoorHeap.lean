/-
  Blocks of memory, and what of them a call may have changed: no function of the program stands here.
-/
import Derived.Test.YtmdfopbigkfbnaaDoorProg
import Derived.WalkKit
import Derived.WalkLawsBesides
import Derived.WalkSpells
import Derived.Lib.Hide
import Derived.Below
import Derived.OpenShut
import Derived.Deep.Onto
import Derived.Laws.AppendOwn
import Derived.Laws.OwnMore
namespace Go.Proofs.YtmdfopbigkfbnaaDoor
open Go.RowKit
set_option linter.unusedVariables false

/-- block b holds these cells -/
def Blk (w : World) (b : Nat) (cs : List Value) (t : Nat) : Prop := w.heap[b]? = some (.cells cs.toArray t (0, 0))
/-- nothing of what there was has changed but in the blocks of F -/
structure Chg (F : Nat → Prop) (w w' : World) : Prop where
  os : w'.os = w.os
  tape : w'.tape = w.tape
  output : w'.output = w.output
  size : w.heap.size ≤ w'.heap.size
  block : ∀ k, k < w.heap.size → ¬ F k → w'.heap[k]? = w.heap[k]?
/-- no block -/
def no : Nat → Prop := fun _ => False
/-- these two -/
def two (a b : Nat) : Nat → Prop := fun k => k = a ∨ k = b
theorem Chg.refl (F : Nat → Prop) (w : World) : Chg F w w := ⟨rfl, rfl, rfl, Nat.le_refl _, fun _ _ _ => rfl⟩
theorem Chg.trans {F : Nat → Prop} {a b c : World} (h : Chg F a b) (k : Chg F b c) : Chg F a c :=
  ⟨k.os.trans h.os, k.tape.trans h.tape, k.output.trans h.output, Nat.le_trans h.size k.size, fun i hi hf => (k.block i (Nat.lt_of_lt_of_le hi h.size) hf).trans (h.block i hi hf)⟩
theorem Chg.mono {F F' : Nat → Prop} {w w' : World} (h : Chg F w w') (hF : ∀ k, k < w.heap.size → F k → F' k) : Chg F' w w' :=
  ⟨h.os, h.tape, h.output, h.size, fun k hk hf => h.block k hk (fun hh => hf (hF k hk hh))⟩
theorem Chg.of_no {F : Nat → Prop} {w w' : World} (h : Chg no w w') : Chg F w w' := h.mono fun _ _ h => h.elim
theorem Chg.drewN (F : Nat → Prop) (w : World) (n : Nat) : Chg F w (w.drewN n) := ⟨rfl, rfl, rfl, Nat.le_refl _, fun _ _ _ => rfl⟩
theorem Chg.drew (F : Nat → Prop) (w : World) : Chg F w w.drew := ⟨rfl, rfl, rfl, Nat.le_refl _, fun _ _ _ => rfl⟩
theorem Chg.alloc (F : Nat → Prop) (w : World) (o : Obj) : Chg F w (w.alloc o) := ⟨rfl, rfl, rfl, by simp, fun k hk _ => Below.heap_alloc _ _ _ hk⟩
theorem Chg.setCell {F : Nat → Prop} (w : World) (p : Addr) (v : Value) (hp : F p.block) : Chg F w (w.setCell p v) :=
  ⟨rfl, rfl, rfl, by simp [World.setCell], fun k _ hf => Below.heap_setCell _ _ _ _ (fun e => hf (e ▸ hp))⟩
theorem Chg.setc {F : Nat → Prop} {w w' : World} (h : Chg F w w') (p : Addr) (v : Value) (hp : F p.block ∨ w.heap.size ≤ p.block) : Chg F w (w'.setCell p v) :=
  ⟨h.os, h.tape, h.output, Nat.le_trans h.size (by simp [World.setCell]), fun k hk hf => (Below.heap_setCell _ _ _ _ (fun e => hp.elim (fun hp => hf (by rw [e]; exact hp)) (fun hp => by omega))).trans (h.block k hk hf)⟩
theorem Chg.thenGrown {F : Nat → Prop} {w w1 w' : World} {row : Option Nat} (h : Chg F w w1) (hg : w1.grownBy w' row) (hr : ∀ k, row = some k → F k ∨ w.heap.size ≤ k) : Chg F w w' :=
  ⟨hg.os.trans h.os, hg.tape.trans h.tape, hg.output.trans h.output, Nat.le_trans h.size hg.size, fun k hk hf => (hg.block k (Nat.lt_of_lt_of_le hk h.size) (fun e => (hr k e.symm).elim hf (fun hh => by omega))).trans (h.block k hk hf)⟩
theorem Chg.thenAlloc {F : Nat → Prop} {w w1 : World} (h : Chg F w w1) (o : Obj) : Chg F w (w1.alloc o) := h.trans (Chg.alloc _ _ _)
theorem Chg.of_below {F : Nat → Prop} {w w' : World} (h : Below w.heap.size w w') : Chg F w w' := ⟨h.os, h.tape, h.output, h.size, fun k hk _ => h.block k hk⟩
theorem Chg.below {F : Nat → Prop} {B : Nat} {w w' : World} (h : Chg F w w') (hB : B ≤ w.heap.size) (hF : ∀ k, k < B → ¬ F k) : Below B w w' := ⟨h.os, h.tape, h.output, h.size, fun k hk => h.block k (Nat.lt_of_lt_of_le hk hB) (hF k hk)⟩
theorem Chg.none {w w' : World} (h : Chg no w w') : Below w.heap.size w w' := h.below (Nat.le_refl _) fun _ _ h => h.elim
theorem Chg.grown {F : Nat → Prop} {w w' : World} {row : Option Nat} (hg : w.grownBy w' row) (hr : ∀ k, row = some k → k < w.heap.size → F k) : Chg F w w' :=
  ⟨hg.os, hg.tape, hg.output, hg.size, fun k hk hf => hg.block k hk (fun e => hf (hr k e.symm hk))⟩
theorem Blk.lt {w : World} {b t : Nat} {cs : List Value} (h : Blk w b cs t) : b < w.heap.size := by
  rcases Nat.lt_or_ge b w.heap.size with hlt | hge
  · exact hlt
  · unfold Blk at h; rw [Array.getElem?_eq_none hge] at h; cases h
theorem Blk.cell {w : World} {b t : Nat} {cs : List Value} (h : Blk w b cs t) (o : Nat) : w.cell? ⟨b, o, none⟩ = cs[o]? := by
  unfold Blk at h
  simp [World.cell?, h]
theorem Blk.free {w : World} {b t : Nat} {cs : List Value} (h : Blk w b cs t) (o : Nat) : w.frozen? ⟨b, o, none⟩ = false := by
  unfold Blk at h
  simp [World.frozen?, h]
theorem Blk.chg {F : Nat → Prop} {w w' : World} {b t : Nat} {cs : List Value} (h : Blk w b cs t) (hc : Chg F w w') (hf : ¬ F b) : Blk w' b cs t := (hc.block b h.lt hf).trans h
theorem Blk.below {w w' : World} {b t B : Nat} {cs : List Value} (h : Blk w b cs t) (hc : Below B w w') (hb : b < B) : Blk w' b cs t := (hc.block b hb).trans h
theorem Blk.drewN {w : World} {b t : Nat} {cs : List Value} (h : Blk w b cs t) (n : Nat) : Blk (w.drewN n) b cs t := h
theorem Blk.new (w : World) (cs : List Value) (t : Nat) : Blk (w.alloc (.cells cs.toArray t)) w.heap.size cs t := heap_alloc_new w _
theorem Blk.nextn (w : World) (n : Nat) (cs : List Value) (t : Nat) (h : n = w.heap.size) : Blk (w.alloc (.cells cs.toArray t)) n cs t := h ▸ Blk.new w cs t
theorem Blk.alloc {w : World} {b t : Nat} {cs : List Value} (h : Blk w b cs t) (o : Obj) : Blk (w.alloc o) b cs t := (Below.heap_alloc w o b h.lt).trans h
theorem Blk.set {w : World} {b t : Nat} {cs : List Value} (h : Blk w b cs t) (o : Nat) (v : Value) : Blk (w.setCell ⟨b, o, none⟩ v) b (cs.set o v) t := by
  unfold Blk at *
  simp only [World.setCell, Array.getElem?_modify, h, if_true]
  simp
theorem Blk.other {w : World} {b t : Nat} {cs : List Value} (h : Blk w b cs t) (p : Addr) (v : Value) (hp : b ≠ p.block) : Blk (w.setCell p v) b cs t := (Below.heap_setCell w p v b hp).trans h
theorem Blk.inj {w : World} {b t u : Nat} {cs ds : List Value} (h : Blk w b cs t) (k : Blk w b ds u) : cs = ds := by
  unfold Blk at h k
  rw [h] at k
  injection k with k
  injection k with k1 k2
  have := congrArg Array.toList k1
  simpa using this
/-- a slice of the call's own whose cells are known -/
theorem own_blk {w : World} {B g n t : Nat} {xs : List Value} (h : w.ownsRow B t 1 (.slice (some ⟨g, 0, none⟩) n n) n xs) : Blk w g xs t ∧ B ≤ g ∧ n ≤ maxLen ∧ xs.length = n := by
  obtain ⟨h1, h2⟩ := h
  rw [Nat.mul_one] at h1
  rcases h2 with ⟨e, _⟩ | ⟨g', cap, cur, e, hB, hg, hn, hm, hcs, ht⟩
  · cases e
  · injection e with e1 e2 e3
    injection e1 with e1
    injection e1 with e1
    subst e1 e3
    rw [Nat.mul_one] at hcs ht
    refine ⟨?_, hB, hm, h1⟩
    unfold Blk
    rw [hg, ← ht, List.take_of_length_le (by simp [hcs])]
theorem blk_own {w : World} {B g n t : Nat} {xs : List Value} (hg : Blk w g xs t) (hB : B ≤ g) (hm : n ≤ maxLen) (hl : xs.length = n) : w.ownsRow B t 1 (.slice (some ⟨g, 0, none⟩) n n) n xs :=
  ⟨by rw [hl, Nat.mul_one], .inr ⟨g, n, xs.toArray, rfl, hB, hg, Nat.le_refl _, hm, by simp [hl], by rw [Nat.mul_one, ← hl]; simp⟩⟩
theorem mod_two {f j c : Nat} (hf : f < c) (hj : j < c) : (f + j) % c = if f + j < c then f + j else f + j - c := by
  split
  · exact Nat.mod_eq_of_lt (by assumption)
  · rw [Nat.mod_eq_sub_mod (by omega), Nat.mod_eq_of_lt (by omega)]
theorem mod_ne {f i j c : Nat} (hf : f < c) (hi : i < c) (hj : j < c) (hij : i ≠ j) : (f + i) % c ≠ (f + j) % c := by
  rw [mod_two hf hi, mod_two hf hj]
  split <;> split <;> omega
theorem mod_at {f c : Nat} (hf : f < c) : (f + 0) % c = f := Nat.mod_eq_of_lt hf
theorem cell_other (w : World) (p r : Addr) (v : Value) (h : p.block ≠ r.block) : (w.setCell r v).cell? p = w.cell? p := World.cell?_of_block (w := w) (Below.heap_setCell w r v p.block h)
theorem set_next {α : Type} (l ds : List α) (k : Nat) (v : α) (hk : k < l.length) (hd : k < ds.length) (hv : v = l[k]) : (l.take k ++ ds.drop k).set k v = l.take (k + 1) ++ ds.drop (k + 1) := by
  subst hv
  have h1 : (l.take k).length = k := by rw [List.length_take]; omega
  rw [List.set_append_right _ _ (by omega), h1, Nat.sub_self, List.drop_eq_getElem_cons hd, List.set_cons_zero, List.take_succ_eq_append_getElem hk, List.append_assoc]
  rfl
end Go.Proofs.YtmdfopbigkfbnaaDoor
