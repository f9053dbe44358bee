/-
  Pages in the order of their addresses. No function of the program stands here.
-/
import Derived.Test.YtdakfgefnapglaaFun13
namespace Go.Proofs.Ytdakfgefnapglaa
open Go.RowKit
set_option linter.unusedVariables false
set_option linter.unusedSimpArgs false

def zPg : Pg := ⟨0, 0, zeE⟩
/-- where a page is put in: from a place on down -/
def plc (out : List Pg) (m : Pg) : Nat → Nat
  | 0 => 0
  | i + 1 => if m.va < ((out[i]?).getD zPg).va then plc out m i else i + 1
def insP (out : List Pg) (m : Pg) : List Pg := out.take (plc out m out.length) ++ m :: out.drop (plc out m out.length)
def sortP (L : List Pg) : List Pg := L.foldl insP []
theorem plc_le (out : List Pg) (m : Pg) : ∀ i, plc out m i ≤ i
  | 0 => Nat.le_refl _
  | i + 1 => by
    unfold plc
    split
    · exact Nat.le_succ_of_le (plc_le out m i)
    · exact Nat.le_refl _
theorem insP_len (out : List Pg) (m : Pg) : (insP out m).length = out.length + 1 := by
  have := plc_le out m out.length
  unfold insP
  rw [List.length_append, List.length_cons, List.length_take, List.length_drop]
  omega
theorem foldl_len : ∀ (L out : List Pg), (L.foldl insP out).length = out.length + L.length
  | [], out => rfl
  | m :: L, out => by rw [List.foldl_cons, foldl_len L, insP_len, List.length_cons]; omega
theorem sortP_len (L : List Pg) : (sortP L).length = L.length := by unfold sortP; rw [foldl_len]; simp
theorem sortP_snoc (L : List Pg) (m : Pg) : sortP (L ++ [m]) = insP (sortP L) m := by unfold sortP; rw [List.foldl_append]; rfl
theorem mem_insP (out : List Pg) (m x : Pg) : x ∈ insP out m ↔ x ∈ out ∨ x = m := by
  unfold insP
  rw [List.mem_append, List.mem_cons]
  have h : x ∈ out ↔ x ∈ out.take (plc out m out.length) ∨ x ∈ out.drop (plc out m out.length) := by
    conv => lhs; rw [← List.take_append_drop (plc out m out.length) out]
    exact List.mem_append
  rw [h]
  constructor
  · rintro (h | h | h)
    · exact .inl (.inl h)
    · exact .inr h
    · exact .inl (.inr h)
  · rintro ((h | h) | h)
    · exact .inl h
    · exact .inr (.inr h)
    · exact .inr (.inl h)
theorem mem_foldl : ∀ (L out : List Pg) (x : Pg), x ∈ L.foldl insP out ↔ x ∈ out ∨ x ∈ L
  | [], out, x => by simp
  | m :: L, out, x => by
    rw [List.foldl_cons, mem_foldl L, mem_insP, List.mem_cons]
    constructor
    · rintro ((h | h) | h)
      · exact .inl h
      · exact .inr (.inl h)
      · exact .inr (.inr h)
    · rintro (h | h | h)
      · exact .inl (.inl h)
      · exact .inl (.inr h)
      · exact .inr h
theorem mem_sortP (L : List Pg) (x : Pg) : x ∈ sortP L ↔ x ∈ L := by unfold sortP; rw [mem_foldl]; simp
/-- in the order of their addresses, none twice -/
def Sd (l : List Pg) : Prop := l.Pairwise (fun a b => a.va < b.va)
theorem plc_low (out : List Pg) (m : Pg) : ∀ i, i ≤ out.length → (∀ j (h : j < out.length), plc out m i ≤ j → j < i → m.va < out[j].va) ∧ (∀ j (h : j < out.length), j + 1 = plc out m i → out[j].va ≤ m.va)
  | 0, _ => ⟨fun j _ _ h => absurd h (Nat.not_lt_zero j), fun j _ h => by unfold plc at h; cases h⟩
  | i + 1, hi => by
    have hlt : i < out.length := hi
    have ih := plc_low out m i (Nat.le_of_lt hlt)
    have e : (out[i]?).getD zPg = out[i] := by simp [hlt]
    unfold plc
    rw [e]
    split
    · rename_i h
      refine ⟨fun j hj h1 h2 => ?_, ih.2⟩
      rcases Nat.lt_or_ge j i with h3 | h3
      · exact ih.1 j hj h1 h3
      · obtain rfl : j = i := by omega
        exact h
    · rename_i h
      refine ⟨fun j hj h1 h2 => by omega, fun j hj h1 => ?_⟩
      obtain rfl : j = i := by omega
      exact Nat.le_of_not_lt h
theorem insP_sd {out : List Pg} {m : Pg} (h : Sd out) (hne : ∀ x ∈ out, x.va ≠ m.va) : Sd (insP out m) := by
  have hp := plc_le out m out.length
  obtain ⟨h1, h2⟩ := plc_low out m out.length (Nat.le_refl _)
  unfold insP
  obtain ⟨p, hpd⟩ : ∃ p, p = plc out m out.length := ⟨_, rfl⟩
  rw [← hpd] at hp h1 h2 ⊢
  have hlow : ∀ a ∈ out.take p, a.va < m.va := fun a ha => by
    obtain ⟨j, hj, rfl⟩ := List.getElem_of_mem ha
    rw [List.length_take] at hj
    rw [List.getElem_take]
    have hjo : j < out.length := by omega
    obtain ⟨q, rfl⟩ : ∃ q, p = q + 1 := ⟨p - 1, by omega⟩
    have hq : q < out.length := by omega
    have hle := h2 q hq rfl
    have hqn := hne out[q] (List.getElem_mem hq)
    rcases Nat.lt_or_ge j q with h3 | h3
    · have := List.pairwise_iff_getElem.1 h j q hjo hq h3
      omega
    · obtain rfl : j = q := by omega
      omega
  have hhigh : ∀ a ∈ out.drop p, m.va < a.va := fun a ha => by
    obtain ⟨j, hj, rfl⟩ := List.getElem_of_mem ha
    rw [List.length_drop] at hj
    rw [List.getElem_drop]
    exact h1 (p + j) (by omega) (by omega) (by omega)
  have hsd : Sd (out.take p ++ out.drop p) := by rw [List.take_append_drop]; exact h
  unfold Sd at hsd ⊢
  rw [List.pairwise_append] at hsd ⊢
  refine ⟨hsd.1, List.pairwise_cons.2 ⟨hhigh, hsd.2.1⟩, fun a ha b hb => ?_⟩
  rcases List.mem_cons.1 hb with rfl | hb
  · exact hlow a ha
  · exact hsd.2.2 a ha b hb
theorem foldl_sd : ∀ (L out : List Pg), Sd out → (∀ x ∈ out, ∀ m ∈ L, x.va ≠ m.va) → L.Pairwise (fun a b => a.va ≠ b.va) → Sd (L.foldl insP out)
  | [], out, h, _, _ => h
  | m :: L, out, h, hne, hp => by
    rw [List.foldl_cons]
    rw [List.pairwise_cons] at hp
    refine foldl_sd L _ (insP_sd h (fun x hx => hne x hx m (List.mem_cons_self ..))) (fun x hx y hy => ?_) hp.2
    rcases (mem_insP out m x).1 hx with hx | rfl
    · exact hne x hx y (List.mem_cons_of_mem _ hy)
    · exact hp.1 y hy
theorem sortP_sd {L : List Pg} (h : L.Pairwise (fun a b => a.va ≠ b.va)) : Sd (sortP L) := foldl_sd L [] List.Pairwise.nil (fun x hx => by simp at hx) h
/-- two rows of the same pages in that order are one -/
theorem sd_unique : ∀ {a b : List Pg}, Sd a → Sd b → (∀ x, x ∈ a ↔ x ∈ b) → a = b
  | [], [], _, _, _ => rfl
  | [], y :: b, _, _, h => absurd ((h y).2 (List.mem_cons_self ..)) (by simp)
  | x :: a, [], _, _, h => absurd ((h x).1 (List.mem_cons_self ..)) (by simp)
  | x :: a, y :: b, ha, hb, h => by
    unfold Sd at ha hb
    rw [List.pairwise_cons] at ha hb
    have hxy : x = y := by
      rcases List.mem_cons.1 ((h x).1 (List.mem_cons_self ..)) with h1 | h1
      · exact h1
      rcases List.mem_cons.1 ((h y).2 (List.mem_cons_self ..)) with h2 | h2
      · exact h2.symm
      have := hb.1 x h1
      have := ha.1 y h2
      omega
    subst hxy
    rw [sd_unique ha.2 hb.2 (fun z => ?_)]
    constructor
    · intro hz
      rcases List.mem_cons.1 ((h z).1 (List.mem_cons_of_mem _ hz)) with rfl | h1
      · exact absurd (ha.1 _ hz) (Nat.lt_irrefl _)
      · exact h1
    · intro hz
      rcases List.mem_cons.1 ((h z).2 (List.mem_cons_of_mem _ hz)) with rfl | h1
      · exact absurd (hb.1 _ hz) (Nat.lt_irrefl _)
      · exact h1
/-- one step of moving up -/
theorem shift_step (O : List Pg) (x : Pg) (q : Nat) (h : q < O.length) : (O.take (q + 1) ++ x :: O.drop (q + 1)).set (q + 1) O[q] = O.take (q + 1) ++ O[q] :: O.drop (q + 1) ∧ O.take (q + 1) ++ O[q] :: O.drop (q + 1) = O.take q ++ O[q] :: O.drop q := by
  constructor
  · have hl : (O.take (q + 1)).length = q + 1 := by rw [List.length_take]; omega
    rw [List.set_append_right _ _ (by omega), hl, Nat.sub_self, List.set_cons_zero]
  · rw [List.take_succ_eq_append_getElem h, List.append_assoc, List.drop_eq_getElem_cons h]
    rfl
theorem shift_end (O : List Pg) (x m : Pg) (p : Nat) (h : p ≤ O.length) : (O.take p ++ x :: O.drop p).set p m = O.take p ++ m :: O.drop p := by
  have hl : (O.take p).length = p := by rw [List.length_take]; omega
  rw [List.set_append_right _ _ (by omega), hl, Nat.sub_self, List.set_cons_zero]
theorem shift_at (O : List Pg) (x : Pg) (q : Nat) (h : q < O.length) : ∃ hq : q < (O.take (q + 1) ++ x :: O.drop (q + 1)).length, (O.take (q + 1) ++ x :: O.drop (q + 1))[q] = O[q] := by
  have hl : (O.take (q + 1)).length = q + 1 := by rw [List.length_take]; omega
  refine ⟨by rw [List.length_append]; omega, ?_⟩
  rw [List.getElem_append_left (by omega), List.getElem_take]
theorem shift_len (O : List Pg) (x : Pg) (q : Nat) (h : q ≤ O.length) : (O.take q ++ x :: O.drop q).length = O.length + 1 := by
  rw [List.length_append, List.length_cons, List.length_take, List.length_drop]; omega
end Go.Proofs.Ytdakfgefnapglaa
