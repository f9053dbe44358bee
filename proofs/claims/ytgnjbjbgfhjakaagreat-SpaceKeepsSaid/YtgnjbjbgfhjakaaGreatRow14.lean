/-
  Rows of structs in memory; a page appended to a row of the call's own. (Out of XRefA13, XRefC13, XRefQ13, for tables in any frames.)
-/
import Derived.Test.YtgnjbjbgfhjakaaGreatTab14
import Derived.Test.YtgnjbjbgfhjakaaGreatApp13
import Derived.Test.YtgnjbjbgfhjakaaGreatRow07
import Derived.Test.YtgnjbjbgfhjakaaGreatPte08
namespace Go.Proofs.YtgnjbjbgfhjakaaGreat
open Go.RowKit
set_option linter.unusedVariables false
set_option linter.unusedSimpArgs false
attribute [local go_sem] setCell_drewN alloc_drewN

/-- rows of structs, as cells -/
def rowS {α : Type} (f : α → List Value) (L : List α) : List Value := L.flatMap f
theorem rowS_app {α : Type} (f : α → List Value) (L K : List α) : rowS f (L ++ K) = rowS f L ++ rowS f K := by unfold rowS; rw [List.flatMap_append]
theorem rowS_at {α : Type} {f : α → List Value} {k : Nat} (hk : ∀ a, (f a).length = k) : ∀ (L : List α) (i j : Nat) (h : i < L.length) (hj : j < k), (rowS f L)[i * k + j]? = (f L[i])[j]?
  | [], i, j, h, _ => by simp at h
  | a :: L, 0, j, h, hj => by
    unfold rowS
    rw [List.flatMap_cons, Nat.zero_mul, Nat.zero_add, List.getElem?_append_left (by rw [hk]; exact hj)]
    rfl
  | a :: L, i + 1, j, h, hj => by
    have ih := rowS_at hk L i j (by simpa using h) hj
    unfold rowS at ih ⊢
    rw [List.flatMap_cons, List.getElem?_append_right (by rw [hk, Nat.succ_mul]; omega), hk, show (i + 1) * k + j - k = i * k + j from by rw [Nat.succ_mul]; omega, ih]
    rfl
def pgC (m : Pg) : List Value := [.int .u64 (m.va : Int), .int .i64 (m.lv : Int), .bool m.e.v, .bool m.e.r, .bool m.e.w, .bool m.e.x, .bool m.e.u, .bool m.e.g, .bool m.e.a, .bool m.e.d, .int .i64 m.e.rsw, .int .u64 (m.e.ppn : Int)]
def pgv (m : Pg) : Value := .agg #[.int .u64 (m.va : Int), .int .i64 (m.lv : Int), .bool m.e.v, .bool m.e.r, .bool m.e.w, .bool m.e.x, .bool m.e.u, .bool m.e.g, .bool m.e.a, .bool m.e.d, .int .i64 m.e.rsw, .int .u64 (m.e.ppn : Int)]
theorem pgC_len (m : Pg) : (pgC m).length = 12 := rfl
/-- a row of structs in memory: its cells -/
def LiesS {α : Type} (f : α → List Value) (k : Nat) (w : World) (v : Value) (L : List α) : Prop :=
  ∃ A cap, v = .slice A L.length cap ∧ L.length ≤ cap ∧ cap ≤ maxLen ∧ (0 < L.length → ∃ g, A = some ⟨g, 0, none⟩ ∧ ∀ i (h : i < L.length) (j : Nat), j < k → w.cell? ⟨g, i * k + j, none⟩ = (f L[i])[j]?)
theorem lies_own {α : Type} {f : α → List Value} {k : Nat} (hk : ∀ a, (f a).length = k) {w : World} {B t : Nat} {v : Value} {L : List α} (h : w.ownsRow B t k v L.length (rowS f L)) : LiesS f k w v L := by
  rcases h.2 with ⟨rfl, h0⟩ | ⟨g, cap, cur, rfl, hB, hg, hn, hm, hcs, ht⟩
  · exact ⟨none, 0, by rw [h0], by omega, by unfold maxLen; omega, fun h => by omega⟩
  · refine ⟨_, cap, rfl, hn, hm, fun _ => ⟨g, rfl, fun i hi j hj => ?_⟩⟩
    have hc := rowS_at hk L i j hi hj
    rw [← ht] at hc
    have hlt : i * k + j < L.length * k := by
      have : (i + 1) * k ≤ L.length * k := Nat.mul_le_mul_right k hi
      rw [Nat.succ_mul] at this; omega
    have h1 := cell_of_row w g (i * k + j) cur _ _ hg
    rw [List.getElem?_take_of_lt (by omega)] at hc
    exact h1.trans (by simpa using hc)
theorem own_chgG {F : Nat → Prop} {w w' : World} {B e s n : Nat} {v : Value} {xs : List Value} (h : w.ownsRow B e s v n xs) (hc : Chg F w w') (hf : ∀ k, v.ownBlock = some k → ¬ F k) : w'.ownsRow B e s v n xs := by
  have hlt := h.lt
  refine ⟨h.1, ?_⟩
  rcases h.2 with h | ⟨g, cap, cur, rfl, hB, hg, h3⟩
  · exact .inl h
  · exact .inr ⟨g, cap, cur, rfl, hB, (hc.block g (hlt g rfl).2 (hf g rfl)).trans hg, h3⟩
theorem pgC_one (m : Pg) : ∀ u ∈ pgC m, u.oneCell' = true := by
  intro u hu
  simp only [pgC, List.mem_cons, List.not_mem_nil, or_false] at hu
  rcases hu with rfl | rfl | rfl | rfl | rfl | rfl | rfl | rfl | rfl | rfl | rfl | rfl <;> rfl
theorem infoM : (Tryz.prog.info? 122).map (fun i => (i.zero, i.size, i.bytes)) = some (some (pgv ⟨0, 0, zeE⟩), 12, 40) := by kernel_rfl
theorem wpList_append_M1 {w : World} {ops : Array Oper} {rest : List Oper} {o : Oper} {a : Act} {Q : Exit → Act → World → Prop} (hgd : o.guard = none) (s x : Operand)
    (ho : o.op = .call { callee := .builtin .append, args := #[s, x], argTypes := #[57, 57] })
    (base : Nat) (v : Value) (n : Nat) (xs : List Value) (hs : a.eval s = v) (hown : w.ownsRow base 122 12 v n xs)
    (b : Nat) (m : Pg) (hx : a.eval x = .slice (some ⟨b, 0, none⟩) 1 1) (hb : Blk w b (pgC m) 122) (h63 : n ≤ 100000) (hbase : base ≤ w.heap.size) (H : Nat) (hH : w.heap.size = H)
    (h : ∀ g cap w', w'.ownsRow base 122 12 (.slice (some ⟨g, 0, none⟩) (n + 1) cap) (n + 1) (xs ++ pgC m) → w.grownBy w' v.ownBlock → (v.ownBlock = some g ∨ g = H) → g < w'.heap.size → wpList Tryz.prog ops Q rest (a.put o.dst (.slice (some ⟨g, 0, none⟩) (n + 1) cap)) w') : wpList Tryz.prog ops Q (o :: rest) a w := by
  obtain ⟨i0, hi, hz0, hz1, hz2⟩ := info_parts infoM
  exact wpList_append_lies w hgd s x 57 ho base 122 i0 (pgv ⟨0, 0, zeE⟩) 12 40 Tryz.underlying57 hi hz0 hz1 hz2 rfl (by decide) v n xs hs hown ⟨b, 0, none⟩ 1 1 (pgC m) hx rfl (World.news_of_block hb) (pgC_one m) (by decide) (by unfold maxLen; omega) (by omega) hbase H hH h
end Go.Proofs.YtgnjbjbgfhjakaaGreat
