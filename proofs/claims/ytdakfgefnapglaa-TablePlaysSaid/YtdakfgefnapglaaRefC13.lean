/-
  What New and Change of package runrigref13 answer and leave in memory: contracts over the translation. Each says its own conditions.
-/
import Derived.Test.YtdakfgefnapglaaFun13
import Derived.Test.YtdakfgefnapglaaWalk10
import Derived.Deep.Cut
namespace Go.Proofs.Ytdakfgefnapglaa
open Go.RowKit
set_option linter.unusedVariables false
set_option linter.unusedSimpArgs false
attribute [local go_sem] setCell_drewN alloc_drewN

theorem pgC_one (m : Pg) : ∀ u ∈ pgC m, u.oneCell' = true := by
  intro u hu
  simp only [pgC, List.mem_cons, List.not_mem_nil, or_false] at hu
  rcases hu with rfl | rfl | rfl | rfl | rfl | rfl | rfl | rfl | rfl | rfl | rfl | rfl <;> rfl
theorem tbC_one (x : Tb) : ∀ u ∈ tbC x, u.oneCell' = true := by
  intro u hu
  simp only [tbC, List.mem_cons, List.not_mem_nil, or_false] at hu
  rcases hu with rfl | rfl <;> rfl
theorem infoM : (Try.prog.info? 60).map (fun i => (i.zero, i.size, i.bytes)) = some (some (pgv ⟨0, 0, zeE⟩), 12, 40) := by kernel_rfl
theorem infoT : (Try.prog.info? 90).map (fun i => (i.zero, i.size, i.bytes)) = some (some (.agg #[.int .i64 0, .int .u64 0]), 2, 16) := by kernel_rfl
theorem wp_append_M {w : World} {o : Oper} {a : Act} {K : Act → World → Prop} {Q : Exit → Act → World → Prop} (s x : Operand)
    (ho : o.op = .call { callee := .builtin .append, args := #[s, x], argTypes := #[49, 49] })
    (base : Nat) (v : Value) (n : Nat) (xs : List Value) (hs : a.eval s = v) (hown : w.ownsRow base 60 12 v n xs)
    (sv : Value) (m : Nat) (news : List Value) (hx : a.eval x = sv) (hsrc : Src w sv m news) (hl : news.length = m * 12) (h1 : ∀ u ∈ news, u.oneCell' = true)
    (h63 : n + m ≤ 100000) (hbase : base ≤ w.heap.size)
    (h : ∀ v' w', w'.ownsRow base 60 12 v' (n + m) (xs ++ news) → w.grownBy w' v.ownBlock → K (a.put o.dst v') w') : o.wp Try.prog a w K Q := by
  obtain ⟨i0, hi, hz0, hz1, hz2⟩ := info_parts infoM
  exact wp_append_src s x 49 ho base 60 i0 (pgv ⟨0, 0, zeE⟩) 12 40 Try.underlying49 hi hz0 hz1 hz2 rfl (by decide) v n xs hs hown sv m news hx hsrc hl h1 (by unfold maxLen; omega) (by omega) hbase h
theorem wpList_append_M {w : World} {ops : Array Oper} {rest : List Oper} {o : Oper} {a : Act} {Q : Exit → Act → World → Prop} (hgd : o.guard = none) (s x : Operand)
    (ho : o.op = .call { callee := .builtin .append, args := #[s, x], argTypes := #[49, 49] })
    (base : Nat) (v : Value) (n : Nat) (xs : List Value) (hs : a.eval s = v) (hown : w.ownsRow base 60 12 v n xs)
    (sv : Value) (m : Nat) (news : List Value) (hx : a.eval x = sv) (hsrc : Src w sv m news) (hl : news.length = m * 12) (h1 : ∀ u ∈ news, u.oneCell' = true)
    (h63 : n + m ≤ 100000) (hbase : base ≤ w.heap.size)
    (h : ∀ v' w', w'.ownsRow base 60 12 v' (n + m) (xs ++ news) → w.grownBy w' v.ownBlock → wpList Try.prog ops Q rest (a.put o.dst v') w') : wpList Try.prog ops Q (o :: rest) a w := by
  obtain ⟨i0, hi, hz0, hz1, hz2⟩ := info_parts infoM
  exact wpList_append_src hgd s x 49 ho base 60 i0 (pgv ⟨0, 0, zeE⟩) 12 40 Try.underlying49 hi hz0 hz1 hz2 rfl (by decide) v n xs hs hown sv m news hx hsrc hl h1 (by unfold maxLen; omega) (by omega) hbase h
theorem wp_append_T {w : World} {o : Oper} {a : Act} {K : Act → World → Prop} {Q : Exit → Act → World → Prop} (s x : Operand)
    (ho : o.op = .call { callee := .builtin .append, args := #[s, x], argTypes := #[61, 61] })
    (base : Nat) (v : Value) (n : Nat) (xs : List Value) (hs : a.eval s = v) (hown : w.ownsRow base 90 2 v n xs)
    (sv : Value) (m : Nat) (news : List Value) (hx : a.eval x = sv) (hsrc : Src w sv m news) (hl : news.length = m * 2) (h1 : ∀ u ∈ news, u.oneCell' = true)
    (h63 : n + m ≤ 100000) (hbase : base ≤ w.heap.size)
    (h : ∀ v' w', w'.ownsRow base 90 2 v' (n + m) (xs ++ news) → w.grownBy w' v.ownBlock → K (a.put o.dst v') w') : o.wp Try.prog a w K Q := by
  obtain ⟨i0, hi, hz0, hz1, hz2⟩ := info_parts infoT
  exact wp_append_src s x 61 ho base 90 i0 (.agg #[.int .i64 0, .int .u64 0]) 2 16 Try.underlying61 hi hz0 hz1 hz2 rfl (by decide) v n xs hs hown sv m news hx hsrc hl h1 (by unfold maxLen; omega) (by omega) hbase h
theorem wpList_append_T {w : World} {ops : Array Oper} {rest : List Oper} {o : Oper} {a : Act} {Q : Exit → Act → World → Prop} (hgd : o.guard = none) (s x : Operand)
    (ho : o.op = .call { callee := .builtin .append, args := #[s, x], argTypes := #[61, 61] })
    (base : Nat) (v : Value) (n : Nat) (xs : List Value) (hs : a.eval s = v) (hown : w.ownsRow base 90 2 v n xs)
    (sv : Value) (m : Nat) (news : List Value) (hx : a.eval x = sv) (hsrc : Src w sv m news) (hl : news.length = m * 2) (h1 : ∀ u ∈ news, u.oneCell' = true)
    (h63 : n + m ≤ 100000) (hbase : base ≤ w.heap.size)
    (h : ∀ v' w', w'.ownsRow base 90 2 v' (n + m) (xs ++ news) → w.grownBy w' v.ownBlock → wpList Try.prog ops Q rest (a.put o.dst v') w') : wpList Try.prog ops Q (o :: rest) a w := by
  obtain ⟨i0, hi, hz0, hz1, hz2⟩ := info_parts infoT
  exact wpList_append_src hgd s x 61 ho base 90 i0 (.agg #[.int .i64 0, .int .u64 0]) 2 16 Try.underlying61 hi hz0 hz1 hz2 rfl (by decide) v n xs hs hown sv m news hx hsrc hl h1 (by unfold maxLen; omega) (by omega) hbase h
theorem rnew_no (first n fs : Nat) (w : World) (h1 : first ≤ 1048576) (h2 : n ≤ 1048576) (h3 : fs ≤ 1048576) (he : takE first n fs 0 ≠ 0) :
    Calls Try.prog 9 #[.int .i64 first, .int .i64 n, .int .i64 fs] w fun e w' => e = .returned (.tuple #[.pointer none, .int .i64 (takE first n fs 0)]) ∧ Chg no w w' := by
  have htk : ∀ (rp : Nat) (w : World), RfT w rp (.slice none 0 0) (.slice none 0 0) ⟨[], [], 0⟩ first n fs → Calls Try.prog 25 #[.pointer (some ⟨rp, 0, none⟩)] w fun e w' => e = .returned (.int .i64 (takE first n fs 0)) ∧ Chg no w w' := by
    intro rp w hR
    unfold takE at he ⊢
    by_cases e1 : 0 = n
    · rw [if_pos e1]; exact rtake_full rp _ _ _ first n fs w hR h1 h2 h3 (Nat.zero_le _) e1
    · rw [if_neg e1] at he ⊢
      by_cases e2 : fs ≤ first + 0
      · rw [if_pos e2]; exact rtake_bound rp _ _ _ first n fs w hR h1 h2 h3 (Nat.zero_le _) e1 e2
      · rw [if_neg e2] at he; exact absurd rfl he
  have hR : RfT (w.alloc (.cells #[.slice none 0 0, .slice none 0 0, .int .i64 first, .int .i64 n, .int .i64 fs, .int .i64 0] 63)) w.heap.size (.slice none 0 0) (.slice none 0 0) ⟨[], [], 0⟩ first n fs :=
    ⟨Blk.new w [.slice none 0 0, .slice none 0 0, .int .i64 first, .int .i64 n, .int .i64 fs, .int .i64 0] _, World.ownsRow_nil _ _ _ _, World.ownsRow_nil _ _ _ _, (by intro h; cases h), (by intro h; cases h)⟩
  have hne : ((takE first n fs 0) == 0) = false := by simpa using he
  obtain ⟨E, hE⟩ : ∃ E, E = takE first n fs 0 := ⟨_, rfl⟩
  rw [← hE] at htk hne ⊢
  have HT := Lib.hid htk; have HR := Lib.hid hR
  clear htk hR he hE
  go_enter Try.func9, Try.ntmps9
  go_wp2_with fail
  refine (HT.out _ _ HR.out).mono ?_
  rintro e w2 ⟨rfl, hc⟩
  have HC := Lib.hid hc; clear hc
  go_wp2
  go_ret2
  exact ⟨rfl, (Chg.alloc _ _ _).trans HC.out⟩
theorem rnew_yes (first n fs : Nat) (w : World) (h1 : first ≤ 1048576) (h2 : n ≤ 1048576) (h3 : fs ≤ 1048576) (he : takE first n fs 0 = 0) :
    Calls Try.prog 9 #[.int .i64 first, .int .i64 n, .int .i64 fs] w fun e w' => ∃ rp, e = .returned (.tuple #[.pointer (some ⟨rp, 0, none⟩), .int .i64 0]) ∧ RfT w' rp (.slice none 0 0) (.slice none 0 0) ⟨[], [], 1⟩ first n fs ∧ w.heap.size ≤ rp ∧ Chg no w w' := by
  have hR : RfT (w.alloc (.cells #[.slice none 0 0, .slice none 0 0, .int .i64 first, .int .i64 n, .int .i64 fs, .int .i64 0] 63)) w.heap.size (.slice none 0 0) (.slice none 0 0) ⟨[], [], 0⟩ first n fs :=
    ⟨Blk.new w [.slice none 0 0, .slice none 0 0, .int .i64 first, .int .i64 n, .int .i64 fs, .int .i64 0] _, World.ownsRow_nil _ _ _ _, World.ownsRow_nil _ _ _ _, (by intro h; cases h), (by intro h; cases h)⟩
  have hcond : ¬ 0 = n ∧ ¬ fs ≤ first + 0 := by
    unfold takE at he
    by_cases e1 : 0 = n
    · rw [if_pos e1] at he; cases he
    · rw [if_neg e1] at he
      by_cases e2 : fs ≤ first + 0
      · rw [if_pos e2] at he; cases he
      · exact ⟨e1, e2⟩
  have htk := rtake_yes w.heap.size _ _ _ first n fs _ hR h1 h2 h3 (Nat.zero_le _) hcond.1 hcond.2
  have HT := Lib.hid htk
  clear htk hR he hcond
  go_enter Try.func9, Try.ntmps9
  go_wp2_with fail
  refine HT.out.mono ?_
  rintro e w2 ⟨rfl, hR2, hc⟩
  have HC := Lib.hid hc; have HR2 := Lib.hid hR2; clear hc hR2
  go_wp2
  go_ret2
  exact ⟨_, rfl, HR2.out, Nat.le_refl _, Chg.newer ((Chg.alloc (fun k => k = w.heap.size) w _).trans HC.out) (fun j hj => by rw [hj]; exact Nat.le_refl _)⟩
theorem load_rowM {w : World} {b k : Nat} {c : Value} (h : w.cell? ⟨b, k, none⟩ = some c) : (Instr.loadAt 49 (.pointer (some ⟨b, k, none⟩))).run Try.prog w = .ok c w := by
  go_simp
theorem yield_rowM {w : World} {b k : Nat} {c : Value} (a : Act) (o : Oper) (x : Operand) (ho : o.op = .load 49 x) (hx : a.eval x = .pointer (some ⟨b, k, none⟩)) (h : w.cell? ⟨b, k, none⟩ = some c) :
    (execOp a.eval o).run Try.prog w = .ok (.value c) w := by
  have e := load_rowM h
  obtain ⟨op, _, _, _, _, _⟩ := o
  dsimp only at ho
  subst ho
  unfold execOp
  simp only [hx]
  simp [e]
theorem load_int13 {w : World} {b k : Nat} {c : Value} (h : w.cell? ⟨b, k, none⟩ = some c) : (Instr.loadAt 3 (.pointer (some ⟨b, k, none⟩))).run Try.prog w = .ok c w := by
  go_simp
theorem yield_int13 {w : World} {b k : Nat} {c : Value} (a : Act) (o : Oper) (x : Operand) (ho : o.op = .load 3 x) (hx : a.eval x = .pointer (some ⟨b, k, none⟩)) (h : w.cell? ⟨b, k, none⟩ = some c) :
    (execOp a.eval o).run Try.prog w = .ok (.value c) w := by
  have e := load_int13 h
  obtain ⟨op, _, _, _, _, _⟩ := o
  dsimp only at ho
  subst ho
  unfold execOp
  simp only [hx]
  simp [e]
theorem own_blkG {w : World} {B t k n g cap : Nat} {xs : List Value} (h : w.ownsRow B t k (.slice (some ⟨g, 0, none⟩) n cap) n xs) : ∃ cur : List Value, Blk w g cur t ∧ B ≤ g ∧ n ≤ cap ∧ cap ≤ maxLen ∧ cur.length = cap * k ∧ cur.take (n * k) = xs := by
  rcases h.2 with ⟨h, _⟩ | ⟨g', cap', cur, hv, hB, hg, hn, hm, hcs, ht⟩
  · cases h
  · injection hv with h1 h2 h3
    injection h1 with h1
    injection h1 with h1
    subst h1 h3
    exact ⟨cur.toList, by unfold Blk; rw [Array.toArray_toList]; exact hg, hB, hn, hm, by simpa using hcs, ht⟩
/-- the rows' own facts, without the struct -/
structure RfR (w : World) (vL vT : Value) (S : Tt) : Prop where
  ownL : w.ownsRow 0 60 12 vL S.L.length (rowS pgC S.L)
  ownT : w.ownsRow 0 90 2 vT S.T.length (rowS tbC S.T)
/-- a pointer's cells behind stores of ten of them -/
def set10 (w : World) (g o : Nat) (e : Ent) : World :=
  (((((((((w.setCell ⟨g, o, none⟩ (.bool e.v)).setCell ⟨g, o + 1, none⟩ (.bool e.r)).setCell ⟨g, o + 2, none⟩ (.bool e.w)).setCell ⟨g, o + 3, none⟩ (.bool e.x)).setCell ⟨g, o + 4, none⟩ (.bool e.u)).setCell ⟨g, o + 5, none⟩ (.bool e.g)).setCell ⟨g, o + 6, none⟩ (.bool e.a)).setCell ⟨g, o + 7, none⟩ (.bool e.d)).setCell ⟨g, o + 8, none⟩ (.int .i64 e.rsw)).setCell ⟨g, o + 9, none⟩ (.int .u64 (e.ppn : Int))
theorem set10_own {w : World} {B g cap i : Nat} {L : List Pg} {e : Ent} (h : w.ownsRow B 60 12 (.slice (some ⟨g, 0, none⟩) L.length cap) L.length (rowS pgC L)) (hi : i < L.length) :
    (set10 w g (i * 12 + 2) e).ownsRow B 60 12 (.slice (some ⟨g, 0, none⟩) L.length cap) L.length (rowS pgC (setE L i e)) := by
  have hA : ((L.take i).flatMap pgC).length = i * 12 := by
    have := rowS_len pgC_len (L.take i)
    unfold rowS at this
    rw [this, List.length_take, Nat.min_eq_left (by omega)]
  have e1 := row_mid pgC L i hi
  have e2 := row_set pgC L i ⟨(entOf L i).va, (entOf L i).lv, e⟩ hi
  rw [show (L.set i ⟨(entOf L i).va, (entOf L i).lv, e⟩) = setE L i e from rfl, entOf_at hi] at e2
  generalize (L.take i).flatMap pgC = A at hA e1 e2
  generalize (L.drop (i + 1)).flatMap pgC = C at e1 e2
  unfold rowS at h ⊢
  rw [e2]
  rw [e1] at h
  generalize L[i] = m at h ⊢
  obtain ⟨xv, xl, ev, er, ew, ex, eu, eg, ea, ed, rs, pp⟩ := m
  have hb : i * 12 + 12 ≤ L.length * 12 := by
    have := Nat.mul_le_mul_right 12 hi
    rw [Nat.succ_mul] at this; exact this
  unfold set10
  dsimp only [pgC] at h ⊢
  have h := own_set h (i * 12 + 2) (by omega) (.bool e.v)
  rw [mid_set A _ C (i * 12) 2 _ hA (by simp)] at h
  simp only [List.set_cons_succ, List.set_cons_zero] at h
  have h := own_set h (i * 12 + 2 + 1) (by omega) (.bool e.r)
  rw [mid_set A _ C (i * 12) 3 _ hA (by simp)] at h
  simp only [List.set_cons_succ, List.set_cons_zero] at h
  have h := own_set h (i * 12 + 2 + 2) (by omega) (.bool e.w)
  rw [mid_set A _ C (i * 12) 4 _ hA (by simp)] at h
  simp only [List.set_cons_succ, List.set_cons_zero] at h
  have h := own_set h (i * 12 + 2 + 3) (by omega) (.bool e.x)
  rw [mid_set A _ C (i * 12) 5 _ hA (by simp)] at h
  simp only [List.set_cons_succ, List.set_cons_zero] at h
  have h := own_set h (i * 12 + 2 + 4) (by omega) (.bool e.u)
  rw [mid_set A _ C (i * 12) 6 _ hA (by simp)] at h
  simp only [List.set_cons_succ, List.set_cons_zero] at h
  have h := own_set h (i * 12 + 2 + 5) (by omega) (.bool e.g)
  rw [mid_set A _ C (i * 12) 7 _ hA (by simp)] at h
  simp only [List.set_cons_succ, List.set_cons_zero] at h
  have h := own_set h (i * 12 + 2 + 6) (by omega) (.bool e.a)
  rw [mid_set A _ C (i * 12) 8 _ hA (by simp)] at h
  simp only [List.set_cons_succ, List.set_cons_zero] at h
  have h := own_set h (i * 12 + 2 + 7) (by omega) (.bool e.d)
  rw [mid_set A _ C (i * 12) 9 _ hA (by simp)] at h
  simp only [List.set_cons_succ, List.set_cons_zero] at h
  have h := own_set h (i * 12 + 2 + 8) (by omega) (.int .i64 e.rsw)
  rw [mid_set A _ C (i * 12) 10 _ hA (by simp)] at h
  simp only [List.set_cons_succ, List.set_cons_zero] at h
  have h := own_set h (i * 12 + 2 + 9) (by omega) (.int .u64 (e.ppn : Int))
  rw [mid_set A _ C (i * 12) 11 _ hA (by simp)] at h
  simp only [List.set_cons_succ, List.set_cons_zero] at h
  exact h
theorem set10_chg (w : World) (g o : Nat) (e : Ent) : Chg (fun k => k = g) w (set10 w g o e) := by
  unfold set10
  iterate 10 refine Chg.setc ?_ _ _ (.inl rfl)
  exact Chg.refl _ w
end Go.Proofs.Ytdakfgefnapglaa
