/-
  What the small functions of package runrigref13 answer: contracts over the translation. Each says its own conditions.
-/
import Derived.Test.YtdakfgefnapglaaTabO13
import Derived.Test.YtdakfgefnapglaaRef08
import Derived.Test.YtdakfgefnapglaaMem
import Derived.Deep.AppendLies
import Derived.Laws.AppendOwnNone
import Derived.Deep.Cut
import Derived.Deep.QuietTactic
import Derived.BigQuiet
namespace Go.Proofs.Ytdakfgefnapglaa
open Go.RowKit
set_option linter.unusedVariables false
set_option linter.unusedSimpArgs false
attribute [local go_sem] setCell_drewN alloc_drewN

/-- rows of structs, as cells -/
def rowS {α : Type} (f : α → List Value) (L : List α) : List Value := L.flatMap f
theorem rowS_len {α : Type} {f : α → List Value} {k : Nat} (hk : ∀ a, (f a).length = k) : ∀ L : List α, (rowS f L).length = L.length * k
  | [] => by simp [rowS]
  | a :: L => by
    have := rowS_len hk L
    unfold rowS at this ⊢
    rw [List.flatMap_cons, List.length_append, hk, this, List.length_cons, Nat.succ_mul]; omega
theorem rowS_app {α : Type} (f : α → List Value) (L K : List α) : rowS f (L ++ K) = rowS f L ++ rowS f K := by unfold rowS; rw [List.flatMap_append]
theorem rowS_at {α : Type} {f : α → List Value} {k : Nat} (hk : ∀ a, (f a).length = k) : ∀ (L : List α) (i j : Nat) (h : i < L.length) (hj : j < k), (rowS f L)[i * k + j]? = (f L[i])[j]?
  | [], i, j, h, _ => by simp at h
  | a :: L, 0, j, h, hj => by
    unfold rowS
    rw [List.flatMap_cons, Nat.zero_mul, Nat.zero_add, List.getElem?_append_left (by rw [hk]; exact hj)]
    rfl
  | a :: L, i + 1, j, h, hj => by
    have ih := rowS_at hk L i j (by simpa using h) hj
    unfold rowS at ih ⊢
    rw [List.flatMap_cons, List.getElem?_append_right (by rw [hk, Nat.succ_mul]; omega), hk, show (i + 1) * k + j - k = i * k + j from by rw [Nat.succ_mul]; omega, ih]
    rfl
def pgC (m : Pg) : List Value := [.int .u64 (m.va : Int), .int .i64 (m.lv : Int), .bool m.e.v, .bool m.e.r, .bool m.e.w, .bool m.e.x, .bool m.e.u, .bool m.e.g, .bool m.e.a, .bool m.e.d, .int .i64 m.e.rsw, .int .u64 (m.e.ppn : Int)]
def pgv (m : Pg) : Value := .agg #[.int .u64 (m.va : Int), .int .i64 (m.lv : Int), .bool m.e.v, .bool m.e.r, .bool m.e.w, .bool m.e.x, .bool m.e.u, .bool m.e.g, .bool m.e.a, .bool m.e.d, .int .i64 m.e.rsw, .int .u64 (m.e.ppn : Int)]
def tbC (x : Tb) : List Value := [.int .i64 (x.lv : Int), .int .u64 (x.va : Int)]
theorem pgC_len (m : Pg) : (pgC m).length = 12 := rfl
theorem tbC_len (x : Tb) : (tbC x).length = 2 := rfl
/-- a row of structs in memory: its cells -/
def LiesS {α : Type} (f : α → List Value) (k : Nat) (w : World) (v : Value) (L : List α) : Prop :=
  ∃ A cap, v = .slice A L.length cap ∧ L.length ≤ cap ∧ cap ≤ maxLen ∧ (0 < L.length → ∃ g, A = some ⟨g, 0, none⟩ ∧ ∀ i (h : i < L.length) (j : Nat), j < k → w.cell? ⟨g, i * k + j, none⟩ = (f L[i])[j]?)
theorem lies_own {α : Type} {f : α → List Value} {k : Nat} (hk : ∀ a, (f a).length = k) {w : World} {B t : Nat} {v : Value} {L : List α} (h : w.ownsRow B t k v L.length (rowS f L)) : LiesS f k w v L := by
  rcases h.2 with ⟨rfl, h0⟩ | ⟨g, cap, cur, rfl, hB, hg, hn, hm, hcs, ht⟩
  · exact ⟨none, 0, by rw [h0], by omega, by unfold maxLen; omega, fun h => by omega⟩
  · refine ⟨_, cap, rfl, hn, hm, fun _ => ⟨g, rfl, fun i hi j hj => ?_⟩⟩
    have hc := rowS_at hk L i j hi hj
    rw [← ht] at hc
    have hlt : i * k + j < L.length * k := by
      have : (i + 1) * k ≤ L.length * k := Nat.mul_le_mul_right k hi
      rw [Nat.succ_mul] at this; omega
    have h1 := cell_of_row w g (i * k + j) cur _ _ hg
    rw [List.getElem?_take_of_lt (by omega)] at hc
    exact h1.trans (by simpa using hc)
/-- the document's tables: a struct, its two rows -/
structure RfT (w : World) (rp : Nat) (vL vT : Value) (S : Tt) (first n fs : Nat) : Prop where
  blk : Blk w rp [vL, vT, .int .i64 (first : Int), .int .i64 (n : Int), .int .i64 (fs : Int), .int .i64 (S.used : Int)] 63
  ownL : w.ownsRow 0 60 12 vL S.L.length (rowS pgC S.L)
  ownT : w.ownsRow 0 90 2 vT S.T.length (rowS tbC S.T)
  neL : vL.ownBlock ≠ some rp
  neT : vT.ownBlock ≠ some rp
theorem own_chgG {F : Nat → Prop} {w w' : World} {B e s n : Nat} {v : Value} {xs : List Value} (h : w.ownsRow B e s v n xs) (hc : Chg F w w') (hf : ∀ k, v.ownBlock = some k → ¬ F k) : w'.ownsRow B e s v n xs := by
  have hlt := h.lt
  refine ⟨h.1, ?_⟩
  rcases h.2 with h | ⟨g, cap, cur, rfl, hB, hg, h3⟩
  · exact .inl h
  · exact .inr ⟨g, cap, cur, rfl, hB, (hc.block g (hlt g rfl).2 (hf g rfl)).trans hg, h3⟩
theorem own_baseG {w : World} {B B' e s n : Nat} {v : Value} {xs : List Value} (h : w.ownsRow B e s v n xs) (hB : B' ≤ B) : w.ownsRow B' e s v n xs := by
  refine ⟨h.1, ?_⟩
  rcases h.2 with h | ⟨g, cap, cur, rfl, hb, h3⟩
  · exact .inl h
  · exact .inr ⟨g, cap, cur, rfl, Nat.le_trans hB hb, h3⟩
section
variable {w w' : World} {rp first n fs : Nat} {vL vT : Value} {S : Tt}
theorem RfT.chg {F : Nat → Prop} (h : RfT w rp vL vT S first n fs) (hc : Chg F w w') (h1 : ¬ F rp) (h2 : ∀ k, vL.ownBlock = some k → ¬ F k) (h3 : ∀ k, vT.ownBlock = some k → ¬ F k) : RfT w' rp vL vT S first n fs :=
  ⟨h.blk.chg hc h1, own_chgG h.ownL hc h2, own_chgG h.ownT hc h3, h.neL, h.neT⟩
theorem RfT.any (h : RfT w rp vL vT S first n fs) (hc : Chg no w w') : RfT w' rp vL vT S first n fs := h.chg hc (fun h => h) (fun _ _ h => h) (fun _ _ h => h)
theorem RfT.liesL (h : RfT w rp vL vT S first n fs) : LiesS pgC 12 w vL S.L := lies_own pgC_len h.ownL
theorem RfT.liesT (h : RfT w rp vL vT S first n fs) : LiesS tbC 2 w vT S.T := lies_own tbC_len h.ownT
end
theorem base_any (va l : Nat) (w : World) (hl : l < 3) (hv : va < 18446744073709551616) : Calls Try.prog 36 #[.int .u64 va, .int .i64 l] w fun e w' => e = .returned (.int .u64 (bas va l : Nat)) ∧ w = w' := by
  have hsp := fun w => rspan_yes l w hl
  have hp : 0 < 2 ^ (12 + 9 * l) := Nat.two_pow_pos _
  have hb := bas_le va l
  have hz : IntKind.u64.wrap ((va : Int) - (va : Int) % ((2 ^ (12 + 9 * l) : Nat) : Int)) = ((bas va l : Nat) : Int) := by
    have h1 := sub_bas va l
    have h2 := Nat.mod_le va (2 ^ (12 + 9 * l))
    rw [wrap_u64B, ← Int.natCast_emod]
    omega
  obtain ⟨P, hP⟩ : ∃ P, P = 2 ^ (12 + 9 * l) := ⟨_, rfl⟩
  rw [← hP] at hp hz
  have hsp' : ∀ w, Calls Try.prog 58 #[.int .i64 (l : Int)] w fun e w' => e = .returned (.int .u64 (P : Nat)) ∧ w = w' := by rw [hP]; exact hsp
  have hne : (P : Int) ≠ 0 := by omega
  have HSP := Lib.hid hsp'; have HZ := Lib.hid hz
  clear hsp hsp' hz hP
  go_enter Try.func36, Try.ntmps36
  go_wp2_with fail
  refine (HSP.out _).mono ?_
  rintro e w' ⟨rfl, rfl⟩
  go_wp2
  go_ret
  exact ⟨ret_int HZ.out, rfl⟩
theorem laid_any (rp va l : Nat) (vL vT : Value) (S : Tt) (first n fs : Nat) (w : World) (h : RfT w rp vL vT S first n fs) (hl : l < 2) (hv : va < 18446744073709551616) :
    Calls Try.prog 35 #[.pointer (some ⟨rp, 0, none⟩), .int .u64 va, .int .i64 l] w fun e w' => e = .returned (.bool (S.T.any (isT va l))) ∧ Chg no w w' := by
  obtain ⟨A, cap, rfl, hn, hm, hcell⟩ := h.liesT
  obtain ⟨T, hT⟩ : ∃ T, T = S.T := ⟨_, rfl⟩
  rw [← hT] at hn hcell h ⊢
  obtain ⟨len, hlen⟩ : ∃ k, k = T.length := ⟨_, rfl⟩
  have h1 : w.cell? ⟨rp, 1, none⟩ = some (.slice A len cap) := by rw [hlen]; exact h.blk.cell 1
  rw [← hlen] at hn
  have hb : ∀ w, Calls Try.prog 36 #[.int .u64 va, .int .i64 ((l : Int) + 1)] w fun e w' => e = .returned (.int .u64 (bas va (l + 1) : Nat)) ∧ w = w' := fun w => base_any va (l + 1) w (by omega) hv
  have ha : IntKind.i64.wrap ((l : Int) + 1) = (l : Int) + 1 := by simp [IntKind.wrap, IntKind.bits, IntKind.signed]; omega
  unfold maxLen at hm
  have HC := Lib.hid hcell; have HN := Lib.hid hlen; have HB := Lib.hid hb
  clear h hcell hlen hT hb
  go_enter Try.func35, Try.ntmps35
  go_wp2
  go_loopw [14] (fun i wr => ∃ k : Nat, k ≤ len ∧ i = .int .i64 k ∧ T.any (isT va l) = (T.drop k).any (isT va l) ∧ Chg no w wr) (fun i _ => len - (intOf i).toNat)
  case atStart => exact ⟨0, Nat.zero_le _, rfl, rfl, Chg.refl _ _⟩
  case round =>
    obtain ⟨k, hk, rfl, he, hc⟩ := hrel
    by_cases hlt : k < len
    · have hkl : k < T.length := by rw [← HN.out]; exact hlt
      obtain ⟨g, rfl, hcl⟩ := HC.out (by have := HN.out; omega)
      have e0 := hcl k hkl 0 (by omega)
      have e1 := hcl k hkl 1 (by omega)
      rw [List.drop_eq_getElem_cons hkl, List.any_cons] at he
      generalize T[k] = x at *
      obtain ⟨xl, xv⟩ := x
      have f0 : wr.cell? ⟨g, k * 2, none⟩ = some (.int .i64 (xl : Int)) := (World.cell?_of_block (w := w) (a := ⟨g, k * 2, none⟩) (hc.block g (cell_lt e0) (fun h => h))).trans e0
      have f1 : wr.cell? ⟨g, k * 2 + 1, none⟩ = some (.int .u64 (xv : Int)) := (World.cell?_of_block (w := w) (a := ⟨g, k * 2 + 1, none⟩) (hc.block g (cell_lt e1) (fun h => h))).trans e1
      have HE := Lib.hid he; have HCH := Lib.hid hc
      clear he hc e0 e1 hcl
      by_cases hxl : xl = l
      · subst hxl
        go_wp2_with fail
        go_quiet ((go_at_call 36; exact quiet_same (HB.out _)))
        by_cases hxv : xv = bas va (xl + 1)
        · have hxv' : ((xv : Int) == ((bas va (xl + 1) : Nat) : Int)) = true := by simp [hxv]
          have ht : isT va xl ⟨xl, xv⟩ = true := isT_iff.2 ⟨rfl, hxv⟩
          have HT := Lib.hid ht
          clear ht hxv
          go_wp2
          go_ret
          exact ⟨ret_bool (by rw [HE.out, HT.out]; rfl), (HCH.out.thenAlloc _).trans (Chg.drewN _ _ _)⟩
        · have hxv' : ((xv : Int) == ((bas va (xl + 1) : Nat) : Int)) = false := by simp; omega
          have ht : isT va xl ⟨xl, xv⟩ = false := by
            cases hh : isT va xl ⟨xl, xv⟩ with
            | false => rfl
            | true => exact absurd (isT_iff.1 hh).2 hxv
          have HT := Lib.hid ht
          clear ht hxv
          go_wp2
          go_roundw
          case rel => exact ⟨k + 1, hlt, by go_num, by rw [HE.out, HT.out]; rfl, (HCH.out.thenAlloc _).trans (Chg.drewN _ _ _)⟩
          case measure => simp [intOf]; omega
      · have hxl' : ((xl : Int) == (l : Int)) = false := by simp; omega
        have ht : isT va l ⟨xl, xv⟩ = false := by
          cases hh : isT va l ⟨xl, xv⟩ with
          | false => rfl
          | true => exact absurd (isT_iff.1 hh).1 hxl
        have HT := Lib.hid ht
        clear ht
        go_wp2_with fail
        go_quiet (fail)
        go_wp2
        go_roundw
        case rel => exact ⟨k + 1, hlt, by go_num, by rw [HE.out, HT.out]; rfl, (HCH.out.thenAlloc _).trans (Chg.drewN _ _ _)⟩
        case measure => simp [intOf]; omega
    · obtain rfl : k = len := by omega
      have h0 : T.any (isT va l) = false := by rw [he, HN.out, List.drop_length]; rfl
      have H0 := Lib.hid h0
      clear he h0
      go_wp2
      go_ret
      exact ⟨ret_bool H0.out.symm, hc⟩
end Go.Proofs.Ytdakfgefnapglaa
