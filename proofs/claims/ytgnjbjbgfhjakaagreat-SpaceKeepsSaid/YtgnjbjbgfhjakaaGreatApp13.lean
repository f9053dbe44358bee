/-
  Appending a row that lies in memory, nil or not, to a row of the call's own: one law for both. No function of the program stands here.
-/
import Derived.Test.YtgnjbjbgfhjakaaGreatHeap
import Derived.Deep.AppendLies
import Derived.Laws.AppendOwnNone
namespace Go.Proofs.YtgnjbjbgfhjakaaGreat
open Go.RowKit
set_option linter.unusedVariables false
set_option linter.unusedSimpArgs false

/-- what is appended: nil, or cells that lie in memory -/
def Src (w : World) (sv : Value) (m : Nat) (news : List Value) : Prop :=
  (sv = .slice none 0 0 ∧ m = 0 ∧ news = []) ∨ ∃ ad c, sv = .slice (some ad) m c ∧ ∀ (j : Nat) u, news[j]? = some u → w.cell? (ad.add j) = some u
theorem Src.chg {F : Nat → Prop} {w w' : World} {sv : Value} {m : Nat} {news : List Value} (h : Src w sv m news) (hc : Chg F w w') (hf : ∀ k, sv.ownBlock = some k → ¬ F k) : Src w' sv m news := by
  rcases h with h | ⟨ad, c, rfl, h⟩
  · exact .inl h
  · refine .inr ⟨ad, c, rfl, fun j u hj => ?_⟩
    have h1 := h j u hj
    have hb : (ad.add j).block = ad.block := by unfold Addr.add; split <;> rfl
    have hlt := World.block_lt_of_cell? w _ h1
    rw [hb] at hlt
    exact (World.cell?_of_block (w := w) (a := ad.add j) (by rw [hb]; exact hc.block _ hlt (hf _ rfl))).trans h1
theorem Src.any {w w' : World} {sv : Value} {m : Nat} {news : List Value} (h : Src w sv m news) (hc : Chg no w w') : Src w' sv m news := h.chg hc (fun _ _ h => h)
theorem Src.own {w : World} {B t k n : Nat} {v : Value} {xs : List Value} (h : w.ownsRow B t k v n xs) : Src w v n xs := by
  rcases h.2 with ⟨rfl, h0⟩ | ⟨g, cap, cur, rfl, hB, hg, hn, hm, hcs, ht⟩
  · refine .inl ⟨rfl, h0, List.eq_nil_of_length_eq_zero ?_⟩
    rw [h.1, h0, Nat.zero_mul]
  · refine .inr ⟨_, cap, rfl, fun j u hj => ?_⟩
    exact h.cells (g := g) rfl j u hj
theorem Src.new (w : World) (cs : List Value) (t m c : Nat) {b : Nat} (hb : Blk w b cs t) : Src w (.slice (some ⟨b, 0, none⟩) m c) m cs :=
  .inr ⟨_, c, rfl, fun j u hj => World.news_of_block hb j u (by simpa using hj)⟩
section
variable {P : Program}
end
/-- what an append of a row has turned -/
theorem grown_chg {w w' : World} {v : Value} {B : Nat} (hgr : w.grownBy w' v.ownBlock) (hv : ∀ k, v.ownBlock = some k → B ≤ k) : Chg (fun k => B ≤ k) w w' :=
  Chg.grown hgr (fun k hk _ => hv k hk)
end Go.Proofs.YtgnjbjbgfhjakaaGreat
