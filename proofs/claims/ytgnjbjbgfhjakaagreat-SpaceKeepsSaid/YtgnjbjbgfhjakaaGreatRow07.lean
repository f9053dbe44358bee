/-
  Rows of integers in memory, lists of frames, and the set of those that are taken: no function of the program stands here.
-/
import Derived.Test.YtgnjbjbgfhjakaaGreatHeap
import Derived.Maps.OwnSet
import Derived.Deep.AppendLies
import Derived.Laws.AppendOwnNone
import Derived.OwnWalk
namespace Go.Proofs.YtgnjbjbgfhjakaaGreat
open Go.RowKit
open Go.Maps (Keyed)
set_option linter.unusedVariables false
set_option linter.unusedSimpArgs false

/-! ### lists -/
/-- n numbers from a on -/
def upto (a : Int) : Nat → List Int
  | 0 => []
  | n + 1 => a :: upto (a + 1) n
theorem upto_len (a : Int) : ∀ n, (upto a n).length = n := fun n => by
  induction n generalizing a with
  | zero => rfl
  | succ n ih => rw [upto, List.length_cons, ih]
theorem upto_mem (x : Int) : ∀ (n : Nat) (a : Int), x ∈ upto a n ↔ a ≤ x ∧ x < a + n := fun n => by
  induction n with
  | zero => intro a; simp [upto]; try omega
  | succ n ih => intro a; rw [upto, List.mem_cons, ih]; omega
theorem upto_nodup : ∀ (n : Nat) (a : Int), (upto a n).Nodup := fun n => by
  induction n with
  | zero => intro a; exact List.nodup_nil
  | succ n ih =>
    intro a
    rw [upto, List.nodup_cons, upto_mem]
    exact ⟨by omega, ih _⟩
theorem upto_snoc : ∀ (n : Nat) (a : Int), upto a (n + 1) = upto a n ++ [a + n] := fun n => by
  induction n with
  | zero => intro a; simp [upto]
  | succ n ih =>
    intro a
    rw [upto, ih, upto, List.cons_append]
    congr 3
    omega
/-- without a frame -/
def without (f : Int) (T : List Int) : List Int := T.filter (fun x => decide (x ≠ f))
theorem without_mem {f x : Int} {T : List Int} : x ∈ without f T ↔ x ∈ T ∧ x ≠ f := by simp [without]
theorem without_not (f : Int) (T : List Int) (h : f ∉ T) : without f T = T := by
  unfold without
  rw [List.filter_eq_self]
  intro x hx
  exact decide_eq_true (fun e => h (e ▸ hx))
theorem without_len {f : Int} : ∀ {T : List Int}, T.Nodup → f ∈ T → (without f T).length + 1 = T.length
  | [], _, h => by cases h
  | x :: r, hn, h => by
    rw [List.nodup_cons] at hn
    by_cases e : x = f
    · subst e
      have e2 : without x (x :: r) = r := by
        rw [← without_not x r hn.1]
        simp [without]
      rw [e2, List.length_cons]
    · have e2 : without f (x :: r) = x :: without f r := by simp [without, e]
      have hf : f ∈ r := by
        rcases List.mem_cons.1 h with h | h
        · exact absurd h.symm e
        · exact h
      rw [e2, List.length_cons, List.length_cons, without_len hn.2 hf]
theorem without_perm {f : Int} {T : List Int} (hn : T.Nodup) (h : f ∈ T) : T.Perm (f :: without f T) := by
  rw [List.perm_ext_iff_of_nodup hn (List.nodup_cons.2 ⟨fun h => (without_mem.1 h).2 rfl, hn.filter _⟩)]
  intro x
  rw [List.mem_cons, without_mem]
  constructor
  · intro hx
    by_cases e : x = f
    · exact .inl e
    · exact .inr ⟨hx, e⟩
  · rintro (rfl | ⟨hx, _⟩)
    · exact h
    · exact hx
/-- the free frames and the taken ones are all the frames of a stock -/
structure All (L T : List Int) (a : Int) (n : Nat) : Prop where
  nod : (L ++ T).Nodup
  at_ : ∀ x ∈ L ++ T, a ≤ x ∧ x < a + n
  len : L.length + T.length = n
theorem All.new (a : Int) (n : Nat) : All (upto a n) [] a n := by
  refine ⟨?_, fun x hx => ?_, ?_⟩
  · rw [List.append_nil]; exact upto_nodup n a
  · rw [List.append_nil] at hx; exact (upto_mem x n a).1 hx
  · rw [upto_len]; rfl
theorem All.perm {L T L' T' : List Int} {a : Int} {n : Nat} (h : All L T a n) (hp : (L ++ T).Perm (L' ++ T')) : All L' T' a n :=
  ⟨hp.nodup_iff.1 h.nod, fun x hx => h.at_ x (hp.mem_iff.2 hx), by rw [← h.len, ← List.length_append, ← List.length_append, hp.length_eq]⟩
theorem All.take {L T : List Int} {f a : Int} {n : Nat} (h : All (f :: L) T a n) : All L (T ++ [f]) a n :=
  h.perm (by
    rw [List.cons_append, ← List.append_assoc]
    exact (List.perm_append_comm (l₁ := [f]) (l₂ := L ++ T)))
theorem All.fresh {L T : List Int} {f a : Int} {n : Nat} (h : All (f :: L) T a n) : f ∉ T := by
  have := h.nod
  rw [List.cons_append, List.nodup_cons] at this
  exact fun hf => this.1 (List.mem_append_right _ hf)
theorem All.nodT {L T : List Int} {a : Int} {n : Nat} (h : All L T a n) : T.Nodup := (List.nodup_append.1 h.nod).2.1
theorem All.give {L T : List Int} {f a : Int} {n : Nat} (h : All L T a n) (hf : f ∈ T) : All (f :: L) (without f T) a n :=
  h.perm (by
    have h1 := List.Perm.append_left L (without_perm h.nodT hf)
    exact h1.trans List.perm_middle)

/-! ### rows -/
theorem own_chgF {F : Nat → Prop} {w w' : World} {B e s n : Nat} {v : Value} {xs : List Value} (h : w.ownsRow B e s v n xs) (hc : Chg F w w') (hf : ∀ k, v.ownBlock = some k → ¬ F k) : w'.ownsRow B e s v n xs := by
  have hlt := h.lt
  refine ⟨h.1, ?_⟩
  rcases h.2 with h | ⟨g, cap, cur, rfl, hB, hg, h3⟩
  · exact .inl h
  · exact .inr ⟨g, cap, cur, rfl, hB, (hc.block g (hlt g rfl).2 (hf g rfl)).trans hg, h3⟩
theorem own_sliceF {w : World} {B e s n : Nat} {v : Value} {xs : List Value} (h : w.ownsRow B e s v n xs) : ∃ A c, v = .slice A n c := by
  rcases h.2 with ⟨rfl, h0⟩ | ⟨g, cap, cur, rfl, _⟩
  · exact ⟨none, 0, by rw [h0]⟩
  · exact ⟨_, _, rfl⟩
theorem own_fromF {w : World} {B e s n : Nat} {v : Value} {xs : List Value} (h : w.ownsRow B e s v n xs) (k : Nat) (hk : v.ownBlock = some k) : B ≤ k := (h.lt k hk).1
/-- cut off behind -/
theorem own_cut {w : World} {B e g n m c : Nat} {xs : List Value} (h : w.ownsRow B e 1 (.slice (some ⟨g, 0, none⟩) n c) n xs) (hm : m ≤ n) : w.ownsRow B e 1 (.slice (some ⟨g, 0, none⟩) m c) m (xs.take m) := by
  obtain ⟨h1, h2⟩ := h
  rw [Nat.mul_one] at h1
  rcases h2 with ⟨e, _⟩ | ⟨g', cap, cur, e, hB, hg, hn, hmx, hcs, ht⟩
  · cases e
  · injection e with e1 e2 e3
    injection e1 with e1
    injection e1 with e1
    subst e1 e3
    refine ⟨by rw [Nat.mul_one, List.length_take]; omega, .inr ⟨g, c, cur, rfl, hB, hg, by omega, hmx, hcs, ?_⟩⟩
    rw [← ht, Nat.mul_one, Nat.mul_one, List.take_take, Nat.min_eq_left hm]
/-- a slice at A, in block Y, reads these numbers -/
def Rdi (w : World) (A : Option Addr) (Y c : Nat) (l : List Int) : Prop :=
  (A = none ∧ l = [] ∧ c = 0) ∨ ∃ off, A = some ⟨Y, off, none⟩ ∧ Y < w.heap.size ∧ l.length ≤ c ∧ c ≤ maxLen ∧ ∀ i (h : i < l.length), w.cell? ⟨Y, off + i, none⟩ = some (.int .i64 l[i])
theorem Rdi.chg {F : Nat → Prop} {w w' : World} {A : Option Addr} {Y c : Nat} {l : List Int} (h : Rdi w A Y c l) (hc : Chg F w w') (hf : A ≠ none → ¬ F Y) : Rdi w' A Y c l := by
  rcases h with h | ⟨off, rfl, hlt, h1, h2, h⟩
  · exact .inl h
  · exact .inr ⟨off, rfl, Nat.lt_of_lt_of_le hlt hc.size, h1, h2, fun i hi => (World.cell?_of_block (w := w) (a := ⟨Y, off + i, none⟩) (hc.block Y hlt (hf (by simp)))).trans (h i hi)⟩
theorem Rdi.le {w : World} {A : Option Addr} {Y c : Nat} {l : List Int} (h : Rdi w A Y c l) : l.length ≤ c ∧ c ≤ maxLen := by
  rcases h with ⟨_, rfl, rfl⟩ | ⟨off, rfl, hlt, h1, h2, h⟩
  · exact ⟨Nat.le_refl _, by unfold maxLen; omega⟩
  · exact ⟨h1, h2⟩
theorem own_rdi {w : World} {B n : Nat} {v : Value} {l : List Int} (h : w.ownsRow B 3 1 v n (l.map (Value.int .i64))) : ∃ A Y c, v = .slice A n c ∧ Rdi w A Y c l ∧ (∀ k, v.ownBlock = some k ↔ (A ≠ none ∧ Y = k)) := by
  obtain ⟨h1, h2⟩ := h
  rw [List.length_map] at h1
  rcases h2 with ⟨rfl, h0⟩ | ⟨g, cap, cur, rfl, hB, hg, hc, hm, hcs, ht⟩
  · exact ⟨none, 0, 0, by rw [h0], .inl ⟨rfl, List.length_eq_zero_iff.1 (by omega), rfl⟩, fun k => by simp [Value.ownBlock]⟩
  · refine ⟨_, g, cap, rfl, .inr ⟨0, rfl, ?_, by omega, hm, fun i hi => ?_⟩, fun k => by simp [Value.ownBlock]⟩
    · rcases Nat.lt_or_ge g w.heap.size with hlt | hge
      · exact hlt
      · rw [Array.getElem?_eq_none hge] at hg; cases hg
    · rw [Nat.zero_add, cell_of_row w g i cur _ _ hg]
      have e : (cur.toList.take (n * 1))[i]? = some (.int .i64 l[i]) := by
        rw [ht, List.getElem?_map, List.getElem?_eq_getElem hi]; rfl
      rw [List.getElem?_take_of_lt (by omega)] at e
      simpa using e
/-- what an append takes of it -/
theorem Rdi.src {w : World} {b off c : Nat} {l : List Int} (h : ∀ i (h : i < l.length), w.cell? ⟨b, off + i, none⟩ = some (.int .i64 l[i])) : ∀ j u, (l.map (Value.int .i64))[j]? = some u → w.cell? ((⟨b, off, none⟩ : Addr).add j) = some u := by
  intro j u hu
  rw [List.getElem?_map] at hu
  rcases Nat.lt_or_ge j l.length with hj | hj
  · rw [List.getElem?_eq_getElem hj] at hu
    rw [Go.WideShapes.add_plain, h j hj]; exact hu
  · rw [List.getElem?_eq_none hj] at hu; cases hu
theorem ints_one {l : List Int} : ∀ u ∈ l.map (Value.int .i64), u.oneCell' = true := by
  intro u hu
  rw [List.mem_map] at hu
  obtain ⟨x, _, rfl⟩ := hu
  rfl
theorem cell_one_new (w : World) (x : Value) (t : TypeId) : ∀ j u, [x][j]? = some u → (w.alloc (.cells #[x] t)).cell? ((⟨w.heap.size, 0, none⟩ : Addr).add j) = some u := by
  intro j u hj
  have hb := Blk.new w [x] t
  rw [Go.WideShapes.add_plain, Nat.zero_add]
  exact (hb.cell j).trans hj
theorem info_parts {P : Program} {t : TypeId} {z : Value} {s b : Nat} (h : (P.info? t).map (fun i => (i.zero, i.size, i.bytes)) = some (some z, s, b)) : ∃ i, P.info? t = some i ∧ i.zero = some z ∧ i.size = s ∧ i.bytes = b := by
  cases hi : P.info? t with
  | none => rw [hi] at h; cases h
  | some i =>
    rw [hi] at h
    simp at h
    exact ⟨i, rfl, h.1, h.2.1, h.2.2⟩
theorem infoI : (Tryz.prog.info? 3).map (fun i => (i.zero, i.size, i.bytes)) = some (some (.int .i64 0), 1, 8) := by kernel_rfl

/-! ### a set of numbers -/
theorem keyFI : Keyed Tryz.prog 3 := Maps.int_keyed Tryz.underlying3
/-- numbers of an int -/
def I64 (f : Int) : Prop := -9223372036854775808 ≤ f ∧ f ≤ 9223372036854775807
theorem keyOfFI {f : Int} (hf : I64 f) : keyOf Tryz.prog 3 (.int .i64 f) = some (.int .i64 f) :=
  Maps.keyOf_int_mk Tryz.underlying3 (by unfold I64 at hf; simp [Lit.wf, IntKind.min, IntKind.max, IntKind.signed, IntKind.bits]; omega)
/-- block mb is the set of these numbers -/
def Tk (w : World) (mb : Nat) (T : List Int) : Prop :=
  ∃ D : DataW Unit, w.ownsMap Tryz.prog 3 unitElem mb T.length D ∧ Maps.Tidy D ∧ Maps.size D = T.length ∧ ∀ f : Int, Maps.has D (.int .i64 f) = decide (f ∈ T)
theorem Tk.lt {w : World} {mb : Nat} {T : List Int} (h : Tk w mb T) : mb < w.heap.size := by
  obtain ⟨D, h, _⟩ := h; exact h.lt
theorem Tk.chg {F : Nat → Prop} {w w' : World} {mb : Nat} {T : List Int} (h : Tk w mb T) (hc : Chg F w w') (hf : ¬ F mb) : Tk w' mb T := by
  have hlt := h.lt
  obtain ⟨D, ⟨es, clock, hb, h1⟩, h2⟩ := h
  exact ⟨D, ⟨es, clock, (hc.block mb hlt hf).trans hb, h1⟩, h2⟩
theorem Tk.made (w : World) : Tk (w.alloc (.map #[] 0)) w.heap.size [] :=
  ⟨.map [], World.ownsMap_made w _ _ _, Maps.tidy_empty, rfl, fun f => by simp [Maps.has]⟩
theorem zeroU (w : World) : (zeroValue 181).run Tryz.prog w = .ok (.agg #[]) w := by kernel_rfl
theorem Tk.look {w : World} {mb : Nat} {T : List Int} (h : Tk w mb T) (f : Int) (hf : I64 f) :
    (Instr.lookup 134 (.map (some mb)) (.int .i64 f) true).run Tryz.prog w = .ok (.tuple #[.agg #[], .bool (decide (f ∈ T))]) w := by
  obtain ⟨D, h, _, _, h3⟩ := h
  obtain ⟨v, ps, hrun, hv⟩ := h.look_ok keyFI Tryz.underlying134 (zeroU w) (zd := .agg []) (zp := []) unitElem_mk (keyOfFI hf)
  obtain ⟨rfl, _⟩ := unitElem_inv hv
  rw [h3] at hrun
  exact hrun
theorem Tk.len {w : World} {mb : Nat} {T : List Int} (h : Tk w mb T) (ty : TypeId) : (Builtin.len_ #[134] ty #[.map (some mb)]).run Tryz.prog w = .ok (.int .i64 T.length) w := by
  obtain ⟨D, h, _, h2, _⟩ := h
  rw [h.len Tryz.underlying134 ty, h2]
theorem exact_map {w : World} {b n : Nat} {D : DataW Unit} (h : w.ownsMap Tryz.prog 3 unitElem b n D) : w.ownsMap Tryz.prog 3 unitElem b (Maps.size D) D := by
  obtain ⟨es, clock, hb, Ft, hs, rfl⟩ := h
  exact ⟨es, clock, hb, Ft, by simp [Maps.size, length_sorted], rfl⟩
theorem Tk.store {w : World} {mb : Nat} {T : List Int} (h : Tk w mb T) (f : Int) (hf : I64 f) (hn : T.length < maxLen) (hT : f ∉ T) :
    ∃ w', (Instr.mapUpdate 134 (.map (some mb)) (.int .i64 f) (.agg #[])).run Tryz.prog w = .ok () w' ∧ Tk w' mb (T ++ [f]) ∧ Chg (fun k => k = mb) w w' := by
  obtain ⟨D, h, h1, h2, h3⟩ := h
  obtain ⟨w', hrun, ho, hg⟩ := h.update (e := 181) keyFI Tryz.underlying134 hn (keyOfFI hf) (val := .agg #[]) (d := .agg []) (ps := []) unitElem_mk
  have hs : Maps.size (D.put (.int .i64 f) (.agg [])) = (T ++ [f]).length := by
    rw [Maps.size_put h1, h3, if_neg (by simpa using hT), h2, List.length_append]; rfl
  have ho' := exact_map ho
  rw [hs] at ho'
  refine ⟨w', hrun, ⟨_, ho', h1.put (by trivial) _, hs, fun k => ?_⟩, Chg.grown hg (fun k hk _ => (Option.some.inj hk).symm)⟩
  by_cases e : k = f
  · subst e
    rw [Maps.has_put_same h1.isMap (by trivial)]
    simp
  · rw [Maps.has_put_other (by intro h; injection h with _ h; exact e h), h3]
    simp [e]
theorem Tk.drop {w : World} {mb : Nat} {T : List Int} (h : Tk w mb T) (f : Int) (hf : I64 f) (hn : T.Nodup) (hT : f ∈ T) (ty : TypeId) :
    ∃ w', (Builtin.delete_ #[134, 3] ty #[.map (some mb), .int .i64 f]).run Tryz.prog w = .ok (.tuple #[]) w' ∧ Tk w' mb (without f T) ∧ Chg (fun k => k = mb) w w' := by
  obtain ⟨D, h, h1, h2, h3⟩ := h
  obtain ⟨w', hrun, ho, ht⟩ := h.drop keyFI Tryz.underlying134 (keyOfFI hf) ty
  have hs : Maps.size (D.del (.int .i64 f)) = (without f T).length := by
    have := Maps.size_del (k := .int .i64 f) h1
    rw [h3, if_pos (by simpa using hT), h2] at this
    have := without_len hn hT
    omega
  have ho' := exact_map ho
  rw [hs] at ho'
  refine ⟨w', hrun, ⟨_, ho', h1.del _, hs, fun k => ?_⟩, Chg.grown ht.grown (fun k hk _ => (Option.some.inj hk).symm)⟩
  by_cases e : k = f
  · subst e
    rw [Maps.has_del_same]
    simp [without_mem]
  · rw [Maps.has_del_other (by intro h; injection h with _ h; exact e h), h3]
    simp [without_mem, e]
end Go.Proofs.YtgnjbjbgfhjakaaGreat
