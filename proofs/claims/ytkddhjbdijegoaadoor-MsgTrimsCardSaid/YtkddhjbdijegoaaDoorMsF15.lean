/-
  The numbers that bytes begin with: what the range over package msg's function gives, and what read answers: contracts over the translation. Each says its own conditions.
-/
import Derived.RangeFuncNested
import Derived.RangeFuncBound
import Derived.RangeFuncCalls
import Derived.RangeFuncLeaves
import Derived.RangeFuncWrites
import Derived.Shelf.Abstract
import Derived.Shelf.RegionOpen
import Derived.WalkKit
import Derived.OwnWalkIn
import Derived.TacticsInMore
import Derived.LoopNIn
import Derived.LoopIn
import Derived.Test.YtkddhjbdijegoaaDoorMsE15
namespace Go.Proofs.YtkddhjbdijegoaaDoor
open Go.RowKit Go.Shelf
set_option linter.unusedVariables false
set_option linter.unusedSimpArgs false
attribute [local go_sem] Oper.semAt_some

/-- what a round keeps: what lay below n₀, and the block Bn -/
def Kp15 (n₀ Bn : Nat) (W W' : World) : Prop := Below n₀ W W' ∧ W'.heap[Bn]? = W.heap[Bn]?
theorem Kp15.refl (n₀ Bn : Nat) (W : World) : Kp15 n₀ Bn W W := ⟨Below.refl _ _, rfl⟩
theorem Kp15.trans {n₀ Bn : Nat} {A B C : World} (h : Kp15 n₀ Bn A B) (k : Kp15 n₀ Bn B C) : Kp15 n₀ Bn A C := ⟨h.1.trans k.1, k.2.trans h.2⟩
theorem Kp15.put {n₀ Bn : Nat} {w : World} (hn : n₀ ≤ w.heap.size) (hB : Bn < w.heap.size) (W : World) (l : Nat) (o o' : Obj) (hl : w.heap.size ≤ l) (h : W.heap[l]? = some o) (h1 : o.isCells = false) (h2 : o.isWalk = false) : Kp15 n₀ Bn W (W.putObj l o') :=
  ⟨belowK_b hn W l o o' hl h h1 h2, World.putObj_heap_other (by omega)⟩
def up15 (d : List Int) (k : Nat) : List Int := (List.range k).map (num15 d)
theorem up15_succ (d : List Int) (k : Nat) : up15 d (k + 1) = up15 d k ++ [num15 d k] := by simp [up15, List.range_succ]
theorem up15_len (d : List Int) (k : Nat) : (up15 d k).length = k := by simp [up15]
theorem of15_succ (k : Nat) (h : k < 6) : of15 (k + 1) = of15 k + sz15 k := by
  match k, h with
  | 0, _ | 1, _ | 2, _ | 3, _ | 4, _ | 5, _ => rfl
theorem of15_le (k : Nat) : of15 k ≤ 11 := by unfold of15; split <;> omega
theorem ixs15_0 (v0 v1 v2 v3 v4 v5 : Value) (w0 : World) : (Instr.index 41 (.agg #[v0, v1, v2, v3, v4, v5]) (.int .i64 0)).run Tryd.prog w0 = .ok v0 w0 := by kernel_rfl
theorem ixs15_1 (v0 v1 v2 v3 v4 v5 : Value) (w0 : World) : (Instr.index 41 (.agg #[v0, v1, v2, v3, v4, v5]) (.int .i64 1)).run Tryd.prog w0 = .ok v1 w0 := by kernel_rfl
theorem ixs15_2 (v0 v1 v2 v3 v4 v5 : Value) (w0 : World) : (Instr.index 41 (.agg #[v0, v1, v2, v3, v4, v5]) (.int .i64 2)).run Tryd.prog w0 = .ok v2 w0 := by kernel_rfl
theorem ixs15_3 (v0 v1 v2 v3 v4 v5 : Value) (w0 : World) : (Instr.index 41 (.agg #[v0, v1, v2, v3, v4, v5]) (.int .i64 3)).run Tryd.prog w0 = .ok v3 w0 := by kernel_rfl
theorem ixs15_4 (v0 v1 v2 v3 v4 v5 : Value) (w0 : World) : (Instr.index 41 (.agg #[v0, v1, v2, v3, v4, v5]) (.int .i64 4)).run Tryd.prog w0 = .ok v4 w0 := by kernel_rfl
theorem ixs15_5 (v0 v1 v2 v3 v4 v5 : Value) (w0 : World) : (Instr.index 41 (.agg #[v0, v1, v2, v3, v4, v5]) (.int .i64 5)).run Tryd.prog w0 = .ok v5 w0 := by kernel_rfl

set_option maxHeartbeats 1000000 in
theorem numbers_in (n : Nat) (A : Option Addr) (len cap : Nat) (w : World) :
    CallsIn Fence.wide n Tryd.prog 32 #[.slice A len cap] w fun e w' => e = .returned (.func (.func 39) #[] #[.pointer (some ⟨w.heap.size, 0, none⟩)]) ∧ w' = w.alloc (.cells #[.slice A len cap] 24) := by
  refine callsIn_of_wp Tryd.func32 rfl trivial ?_ rfl
  simp only [Tryd.ntmps32, List.size_toArray, List.length_cons, List.length_nil, Nat.reduceAdd, Nat.reduceSub, Array.replicate_succ, Array.replicate_zero, List.push_toArray, List.append_toArray, List.nil_append, List.cons_append]
  gi_wp2
  go_ret
  exact ⟨rfl, rfl⟩

set_option maxRecDepth 100000 in
set_option maxHeartbeats 4000000 in
theorem nums_in (n : Nat) (hn : 1 ≤ n) (l Bs n₀ : Nat) (A : Option Addr) (len cap : Nat) (d : List Int) (J Jx : List Int → World → Prop)
    (hY : ∀ pre x W, J pre W → pre.length < 6 → YieldAt Fence.wide (n - 1) Tryd.prog l #[.int .u64 x] W fun e W' =>
      (e = .returned (.bool true) ∧ J (pre ++ [x]) W' ∧ Kp15 n₀ Bs W W') ∨ (e = .returned (.bool false) ∧ Jx (pre ++ [x]) W'))
    (W : World) (hD : ∀ W', Kp15 n₀ Bs W W' → W'.cell? ⟨Bs, 0, none⟩ = some (.slice A len cap) ∧ Dat W' A len cap d) (hS : Szs W) (h0 : J [] W) :
    CallsIn Fence.wide n Tryd.prog 39 #[.func (.yield l) #[] #[], .pointer (some ⟨Bs, 0, none⟩)] W fun e W' => (∃ v, e = .returned v) ∧
      ((∃ ys, (∃ k, k ≤ 6 ∧ ys = up15 d k ∧ (k = 6 ↔ 11 ≤ len)) ∧ J ys W') ∨ (∃ pre, True ∧ Jx pre W')) := by
  have s0 : W.cell? ⟨0, 0, none⟩ = some (.int .i64 1) := hS 0 (by omega)
  have s1 : W.cell? ⟨0, 1, none⟩ = some (.int .i64 1) := hS 1 (by omega)
  have s2 : W.cell? ⟨0, 2, none⟩ = some (.int .i64 1) := hS 2 (by omega)
  have s3 : W.cell? ⟨0, 3, none⟩ = some (.int .i64 4) := hS 3 (by omega)
  have s4 : W.cell? ⟨0, 4, none⟩ = some (.int .i64 2) := hS 4 (by omega)
  have s5 : W.cell? ⟨0, 5, none⟩ = some (.int .i64 2) := hS 5 (by omega)
  have hle := (hD W (Kp15.refl _ _ _)).2.le
  have HD := Lib.hid hD; have HY := Lib.hid hY
  clear hD hY hS
  refine callsIn_of_wp Tryd.func39 rfl trivial ?_ rfl
  simp only [Tryd.ntmps39, List.size_toArray, List.length_cons, List.length_nil, Nat.reduceAdd, Nat.reduceSub, Array.replicate_succ, Array.replicate_zero, List.push_toArray, List.append_toArray, List.nil_append, List.cons_append]
  gi_wp2
  clear s0 s1 s2 s3 s4 s5
  gi_loopw [3, 9] (fun a i wr => ∃ k : Nat, k ≤ 6 ∧ a = .int .i64 (of15 k : Nat) ∧ i = .int .i64 (k : Int) ∧ of15 k ≤ len ∧ J (up15 d k) wr ∧ Kp15 n₀ Bs W wr)
    (fun _ i _ => 6 - (intOf i).toNat)
  case atStart => exact ⟨0, Nat.zero_le _, rfl, rfl, Nat.zero_le _, h0, Kp15.refl _ _ _⟩
  case round =>
    obtain ⟨k, hk, rfl, rfl, hof, hJs, hnx⟩ := hrel
    have HJ := Lib.hid hJs; have HN := Lib.hid hnx
    clear hJs hnx
    by_cases hlt : k < 6
    · have hki : (k : Int) < 6 := by omega
      have hidx : ∀ w0, (Instr.index 41 (.agg #[.int .i64 1, .int .i64 1, .int .i64 1, .int .i64 4, .int .i64 2, .int .i64 2]) (.int .i64 (k : Int))).run Tryd.prog w0 = .ok (.int .i64 (sz15 k : Nat)) w0 := by
        intro w0
        match k, hlt with
        | 0, _ => exact ixs15_0 _ _ _ _ _ _ w0
        | 1, _ => exact ixs15_1 _ _ _ _ _ _ w0
        | 2, _ => exact ixs15_2 _ _ _ _ _ _ w0
        | 3, _ => exact ixs15_3 _ _ _ _ _ _ w0
        | 4, _ => exact ixs15_4 _ _ _ _ _ _ w0
        | 5, _ => exact ixs15_5 _ _ _ _ _ _ w0
      obtain ⟨hbs, hdt⟩ := HD.out wr HN.out
      have hsi := sz15_SzI k
      have hsu := of15_succ k hlt
      have hup := up15_succ d k
      have hln := up15_len d k
      have hxk : num15 d k = le ((d.drop (of15 k)).take (sz15 k)) := rfl
      have ho1 := of15_le (k + 1)
      by_cases hin : of15 k + sz15 k ≤ len
      · have hib : InB len (of15 k : Nat) (sz15 k : Nat) := ⟨hsi, by omega, by omega⟩
        have hget := get_yes A len d cap (of15 k) (sz15 k) wr hdt.rd hdt.len hib
        rw [← hxk] at hget
        obtain ⟨fn, tmps, assign, body, hy, hR⟩ := HY.out _ (num15 d k) wr HJ.out (by rw [hln]; exact hlt)
        rw [← hup] at hR
        have HG := Lib.hid hget; have HSU := Lib.hid hsu; have HR := Lib.hid hR
        have hof2 : of15 (k + 1) ≤ len := by omega
        have hwr : IntKind.i64.wrap ((of15 k : Nat) + (sz15 k : Nat) : Int) = (of15 (k + 1) : Nat) := by simp [IntKind.wrap, IntKind.signed, IntKind.bits]; omega
        generalize num15 d k = xk at *
        obtain ⟨o1, hO1⟩ : ∃ o1, o1 = of15 (k + 1) := ⟨_, rfl⟩
        rw [← hO1] at hwr hof2 ho1
        have HO1 := Lib.hid hO1
        generalize of15 k = ok at *
        generalize sz15 k = sk at *
        clear hget hsu hR hxk hsi hib hdt hup hin hO1
        gi_wp2
        refine ⟨trivial, ?_⟩
        refine (callsIn_wide.2 HG.out).mono ?_
        rintro e w' ⟨rfl, rfl⟩
        gi_wp2
        refine HR.out.mono ?_
        rintro e W3 (⟨rfl, hJ3, hk3⟩ | ⟨rfl, hJx3⟩)
        · gi_wp2
          go_roundw
          case rel => exact ⟨k + 1, by omega, by rw [← HO1.out], by go_num, by rw [← HO1.out]; exact hof2, hJ3, HN.out.trans hk3⟩
          case measure => simp [intOf]; omega
        · gi_wp2
          refine bodyPost_ret (results_none rfl _ _ _) rfl ?_
          exact ⟨⟨_, rfl⟩, .inr ⟨_, trivial, hJx3⟩⟩
      · have hib : ¬ InB len (of15 k : Nat) (sz15 k : Nat) := fun h => by have := h.2.2; omega
        have hget := get_no A len cap (of15 k : Nat) (sz15 k : Nat) wr hle hib
        have HG := Lib.hid hget
        have hlen11 : ¬ 11 ≤ len := by omega
        clear hget hib hsi hdt hsu hup hxk
        gi_wp2
        refine ⟨trivial, ?_⟩
        refine (callsIn_wide.2 HG.out).mono ?_
        rintro e w' ⟨rfl, rfl⟩
        gi_wp2
        refine ⟨fun _ h => (by cases h), ?_⟩
        gi_wp2
        refine bodyPost_ret (results_none rfl _ _ _) rfl ?_
        exact ⟨⟨_, rfl⟩, .inl ⟨_, ⟨k, hk, rfl, by omega⟩, HJ.out⟩⟩
    · obtain rfl : k = 6 := by omega
      have h11 : 11 ≤ len := hof
      gi_wp2
      go_end0
      exact ⟨⟨_, rfl⟩, .inl ⟨_, ⟨6, Nat.le_refl _, rfl, ⟨fun _ => h11, fun _ => rfl⟩⟩, HJ.out⟩⟩
end Go.Proofs.YtkddhjbdijegoaaDoor
