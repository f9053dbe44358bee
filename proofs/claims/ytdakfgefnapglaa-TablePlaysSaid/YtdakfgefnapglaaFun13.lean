/-
  What the document's tables do, as functions of pages and tables. No function of the program stands here.
-/
import Derived.Test.YtdakfgefnapglaaRefM13
import Derived.Test.YtdakfgefnapglaaApp13
namespace Go.Proofs.Ytdakfgefnapglaa
open Go.RowKit
set_option linter.unusedVariables false
set_option linter.unusedSimpArgs false

/-- Map from a level on down: k levels are left above the page's -/
def desc (first n fs va lv : Nat) (e : Ent) : Nat → Tt → Tt × Int
  | 0, S => if (pagI S.L va lv).isSome || (decide (0 < lv) && S.T.any (isT va (lv - 1))) then (S, 130) else (⟨S.L ++ [⟨bas va lv, lv, e⟩], S.T, S.used⟩, 0)
  | k + 1, S => if (pagI S.L va (lv + k + 1)).isSome then (S, 130) else if S.T.any (isT va (lv + k)) then desc first n fs va lv e k S
    else if takE first n fs S.used = 0 then desc first n fs va lv e k ⟨S.L, S.T ++ [⟨lv + k, bas va (lv + k + 1)⟩], S.used + 1⟩ else (S, takE first n fs S.used)
def mapT (first n fs va : Nat) (l : Int) (e : Ent) (S : Tt) : Tt × Int := if canN va && mayE e l then desc first n fs va l.toNat e (2 - l.toNat) S else (S, 2)
def zeE : Ent := ⟨false, false, false, false, false, false, false, false, 0, 0⟩
def entOf (L : List Pg) (i : Nat) : Pg := (L[i]?).getD ⟨0, 0, zeE⟩
def setE (L : List Pg) (i : Nat) (e : Ent) : List Pg := L.set i ⟨(entOf L i).va, (entOf L i).lv, e⟩
def chgT (va : Nat) (e : Ent) (S : Tt) : Tt × Int :=
  match hold S.L va with
  | none => (S, 51)
  | some i => if mayE e (entOf S.L i).lv then (⟨setE S.L i e, S.T, S.used⟩, 0) else (S, 2)
def unmT (va : Nat) (S : Tt) : Tt × Ent × Int :=
  match hold S.L va with
  | none => (S, zeE, 51)
  | some i => (⟨S.L.eraseIdx i, S.T, S.used⟩, (entOf S.L i).e, 0)
theorem entOf_at {L : List Pg} {i : Nat} (h : i < L.length) : entOf L i = L[i] := by unfold entOf; simp [h]
theorem hold_lt {L : List Pg} {va i : Nat} (h : hold L va = some i) : i < L.length := by
  unfold hold at h
  split at h
  · rcases Option.or_eq_some_iff.1 h with h | ⟨_, h⟩
    · exact (List.findIdx?_eq_some_iff_getElem.1 h).1
    · rcases Option.or_eq_some_iff.1 h with h | ⟨_, h⟩
      · exact (List.findIdx?_eq_some_iff_getElem.1 h).1
      · exact (List.findIdx?_eq_some_iff_getElem.1 h).1
  · cases h
theorem desc_len {first n fs va lv : Nat} {e : Ent} : ∀ k S, (desc first n fs va lv e k S).1.L.length ≤ S.L.length + 1 ∧ (desc first n fs va lv e k S).1.T.length ≤ S.T.length + k
  | 0, S => by
    unfold desc
    split
    · exact ⟨Nat.le_succ _, Nat.le_refl _⟩
    · dsimp only; rw [List.length_append]; exact ⟨Nat.le_refl _, Nat.le_refl _⟩
  | k + 1, S => by
    rw [desc]
    split
    · exact ⟨Nat.le_succ _, by dsimp only; omega⟩
    split
    · have := desc_len (first := first) (n := n) (fs := fs) (va := va) (lv := lv) (e := e) k S
      exact ⟨this.1, by omega⟩
    split
    · have := desc_len (first := first) (n := n) (fs := fs) (va := va) (lv := lv) (e := e) k ⟨S.L, S.T ++ [⟨lv + k, bas va (lv + k + 1)⟩], S.used + 1⟩
      dsimp only at this
      rw [List.length_append] at this
      exact ⟨this.1, by have := this.2; simp only [List.length_singleton] at this; omega⟩
    · exact ⟨Nat.le_succ _, by dsimp only; omega⟩
/-! ### Rows of structs, one of them turned -/
theorem row_mid {α : Type} (f : α → List Value) (L : List α) (i : Nat) (h : i < L.length) : L.flatMap f = (L.take i).flatMap f ++ f L[i] ++ (L.drop (i + 1)).flatMap f := by
  conv => lhs; rw [← List.take_append_drop i L, List.drop_eq_getElem_cons h]
  rw [List.flatMap_append, List.flatMap_cons, List.append_assoc]
theorem row_set {α : Type} (f : α → List Value) (L : List α) (i : Nat) (a : α) (h : i < L.length) : (L.set i a).flatMap f = (L.take i).flatMap f ++ f a ++ (L.drop (i + 1)).flatMap f := by
  rw [List.set_eq_take_append_cons_drop, if_pos h, List.flatMap_append, List.flatMap_cons, List.append_assoc]
theorem mid_set (A m C : List Value) (n j : Nat) (u : Value) (hn : A.length = n) (hj : j < m.length) : (A ++ m ++ C).set (n + j) u = A ++ m.set j u ++ C := by
  subst hn
  rw [List.append_assoc, List.set_append_right _ _ (by omega), Nat.add_sub_cancel_left, List.set_append_left _ _ hj, List.append_assoc]
theorem own_set {w : World} {B t k n g cap : Nat} {xs : List Value} (h : w.ownsRow B t k (.slice (some ⟨g, 0, none⟩) n cap) n xs) (o : Nat) (ho : o < n * k) (u : Value) :
    (w.setCell ⟨g, o, none⟩ u).ownsRow B t k (.slice (some ⟨g, 0, none⟩) n cap) n (xs.set o u) := by
  have hlen := h.1
  rcases h.2 with ⟨h, _⟩ | ⟨g', cap', cur, hv, hB, hg, hn, hm, hcs, ht⟩
  · cases h
  · injection hv with h1 h2 h3
    injection h1 with h1
    injection h1 with h1
    subst h1 h3
    have hb : Blk w g cur.toList t := by unfold Blk; rw [Array.toArray_toList]; exact hg
    have hb := hb.set o u
    unfold Blk at hb
    refine ⟨by rw [List.length_set]; exact hlen, .inr ⟨g, cap, (cur.toList.set o u).toArray, rfl, hB, hb, hn, hm, by simpa using hcs, ?_⟩⟩
    rw [List.take_set, ht]
end Go.Proofs.Ytdakfgefnapglaa
