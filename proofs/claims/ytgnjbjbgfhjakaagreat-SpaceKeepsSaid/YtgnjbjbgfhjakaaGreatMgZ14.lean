/-
  The tables' pages, listed entry by entry: each stands there once. No function of the program stands here. What Used, Frames, Slots and Pages of package space answer: contracts over the translation. Each says its own conditions. What sound of package runriglaw14 answers: a contract over the translation. It says its own conditions. A space of a law's own: what its calls answer and leave, as one predicate. Contracts, each says its own conditions. A space with frames for all its pages: setting a right never fails, and bytes stay. No function of the program stands here. Layer 14: what first answers: a contract over the translation.
-/
import Derived.Test.YtgnjbjbgfhjakaaGreatMgN14
import Derived.Test.YtgnjbjbgfhjakaaGreatTlbG11
import Derived.Test.YtgnjbjbgfhjakaaGreatRow14
import Derived.Deep.QuietTactic
import Derived.BigQuiet
import Derived.Test.YtgnjbjbgfhjakaaGreatMgP14
namespace Go.Proofs.YtgnjbjbgfhjakaaGreat
open Go.RowKit
set_option linter.unusedVariables false
set_option linter.unusedSimpArgs false

theorem len_sub {α : Type} : ∀ {l m : List α}, l.Nodup → (∀ x ∈ l, x ∈ m) → l.length ≤ m.length
  | [], m, _, _ => Nat.zero_le _
  | a :: l, m, hn, hs => by
    obtain ⟨s, t, rfl⟩ := List.append_of_mem (hs a List.mem_cons_self)
    have hn' := List.nodup_cons.1 hn
    have := len_sub (l := l) (m := s ++ t) hn'.2 (fun x hx => by
      rcases List.mem_append.1 (hs x (List.mem_cons_of_mem _ hx)) with h | h
      · exact List.mem_append_left _ h
      · rcases List.mem_cons.1 h with h | h
        · subst h; exact absurd hx hn'.1
        · exact List.mem_append_right _ h)
    rw [List.length_append] at this
    rw [List.length_cons, List.length_append, List.length_cons]
    omega
section
variable {first fs : Nat} {M : Nat → Nat} {S : Tt}
theorem slot_bas (h : RT first fs M S) {l b i : Nat} (hb : Stt b l) (hi : i < 512) {x : Pg} (hx : x ∈ slotP first S.L S.T l (vaI b l i)) : bas x.va l = vaI b l i := by
  obtain ⟨c1, _, b1, _, u1, _⟩ := vaI_ok hb hi
  unfold slotP at hx
  cases hp : pg S.L (vaI b l i) l with
  | none =>
    rw [hp] at hx
    dsimp only at hx
    cases hk : kid first S.T (vaI b l i) l with
    | none => rw [hk] at hx; simp at hx
    | some g =>
      rw [hk] at hx
      dsimp only at hx
      cases l with
      | zero => cases hk
      | succ l =>
        obtain ⟨q1, q2, q3⟩ := (mem_sub h l _ (stt_kid hb hi) x).1 hx
        exact q3 (by have := hb.1; omega)
  | some m =>
    rw [hp] at hx
    obtain rfl := List.mem_singleton.1 hx
    obtain ⟨hm, hlv, hva⟩ := pg_mem hp
    rw [hva, bas_bas (Nat.le_refl _), b1]
theorem sub_nodup (h : RT first fs M S) : ∀ (l b : Nat), Stt b l → (subP first S.L S.T (l + 1) b).Nodup := fun l => by
  induction l with
  | zero =>
    intro b hb
    rw [subP_eq]
    have : ∀ k, k ≤ 512 → (subK first S.L S.T 0 b k).Nodup := fun k => by
      induction k with
      | zero => intro _; exact List.nodup_nil
      | succ k ih =>
        intro hk
        rw [subK_succ]
        refine List.nodup_append.2 ⟨ih (by omega), ?_, fun x hx y hy e => ?_⟩
        · unfold slotP
          split
          · exact List.nodup_cons.2 ⟨by simp, List.nodup_nil⟩
          · exact List.nodup_nil
        · subst e
          unfold subK at hx
          obtain ⟨i, hi, hx⟩ := List.mem_flatMap.1 hx
          rw [List.mem_range] at hi
          have e1 := slot_bas h hb (by omega) hx
          have e2 := slot_bas h hb (by omega) hy
          have := vaI_lt hb hi (by omega) e1
          have := bas_le x.va 0
          omega
    exact this 512 (Nat.le_refl _)
  | succ l ihl =>
    intro b hb
    rw [subP_eq]
    have : ∀ k, k ≤ 512 → (subK first S.L S.T (l + 1) b k).Nodup := fun k => by
      induction k with
      | zero => intro _; exact List.nodup_nil
      | succ k ih =>
        intro hk
        rw [subK_succ]
        refine List.nodup_append.2 ⟨ih (by omega), ?_, fun x hx y hy e => ?_⟩
        · unfold slotP
          split
          · exact List.nodup_cons.2 ⟨by simp, List.nodup_nil⟩
          · split
            · exact ihl _ (stt_kid hb (by omega))
            · exact List.nodup_nil
        · subst e
          unfold subK at hx
          obtain ⟨i, hi, hx⟩ := List.mem_flatMap.1 hx
          rw [List.mem_range] at hi
          have e1 := slot_bas h hb (by omega) hx
          have e2 := slot_bas h hb (by omega) hy
          have := vaI_lt hb hi (by omega) e1
          have := bas_le x.va (l + 1)
          omega
    exact this 512 (Nat.le_refl _)
theorem sub_len (h : RT first fs M S) : (subP first S.L S.T 3 0).length ≤ S.L.length := len_sub (sub_nodup h 2 0 stt_root) (fun x hx => (mem_all h x).1 hx)
end
end Go.Proofs.YtgnjbjbgfhjakaaGreat

namespace Go.Proofs.YtgnjbjbgfhjakaaGreat
open Go.RowKit
set_option linter.unusedVariables false
set_option linter.unusedSimpArgs false
attribute [local go_sem] setCell_drewN alloc_drewN

/-- a buffer's entries in their order -/
def sloT (x : Nat × Nat × Wy) : List Value := sloC x.1 x.2.1 x.2.2
def lstT1 (f : Nat → Wy) (i : Nat) : Nat → List (Nat × Nat × Wy)
  | 0 => []
  | j + 1 => lstT1 f i j ++ (if (f j).full then [(i, j, f j)] else [])
def lstT (R : Nat → Nat → Wy) (m : Nat) : Nat → List (Nat × Nat × Wy)
  | 0 => []
  | k + 1 => lstT R m k ++ lstT1 (R k) k m
theorem lstT1_C (f : Nat → Wy) (i : Nat) : ∀ j, lstC1 f i j = rowS sloT (lstT1 f i j) ∧ (lstT1 f i j).length = cnt1 (fun j => (f j).full) j
  | 0 => ⟨rfl, rfl⟩
  | j + 1 => by
    obtain ⟨h1, h2⟩ := lstT1_C f i j
    unfold lstC1 lstT1 cnt1
    rw [h1, rowS_app, List.length_append, h2]
    split
    · exact ⟨by unfold rowS; simp [sloT], rfl⟩
    · exact ⟨by unfold rowS; simp, rfl⟩
theorem lstT_C (R : Nat → Nat → Wy) (m : Nat) : ∀ k, lstC R m k = rowS sloT (lstT R m k) ∧ (lstT R m k).length = cnt2 (fun i j => (R i j).full) m k
  | 0 => ⟨rfl, rfl⟩
  | k + 1 => by
    obtain ⟨h1, h2⟩ := lstT_C R m k
    obtain ⟨h3, h4⟩ := lstT1_C (R k) k m
    unfold lstC lstT cnt2
    rw [h1, h3, rowS_app, List.length_append, h2, h4]
    exact ⟨rfl, rfl⟩
theorem lstT1_mem {f : Nat → Wy} {i : Nat} {x : Nat × Nat × Wy} : ∀ {j}, x ∈ lstT1 f i j → ∃ q, q < j ∧ x = (i, q, f q) ∧ (f q).full = true
  | 0, h => by cases h
  | j + 1, h => by
    unfold lstT1 at h
    rcases List.mem_append.1 h with h | h
    · obtain ⟨q, h1, h2⟩ := lstT1_mem h
      exact ⟨q, by omega, h2⟩
    · split at h
      · rename_i hf
        exact ⟨j, by omega, List.mem_singleton.1 h, hf⟩
      · cases h
theorem lstT_mem {R : Nat → Nat → Wy} {m : Nat} {x : Nat × Nat × Wy} : ∀ {k}, x ∈ lstT R m k → ∃ i q, i < k ∧ q < m ∧ x = (i, q, R i q) ∧ (R i q).full = true
  | 0, h => by cases h
  | k + 1, h => by
    unfold lstT at h
    rcases List.mem_append.1 h with h | h
    · obtain ⟨i, q, h1, h2⟩ := lstT_mem h
      exact ⟨i, q, by omega, h2⟩
    · obtain ⟨q, h1, h2, h3⟩ := lstT1_mem h
      exact ⟨k, q, by omega, h1, h2, h3⟩
theorem sloT_len (x : Nat × Nat × Wy) : (sloT x).length = 16 := rfl
theorem load_ptrS {w : World} {b o : Nat} {x : Option Addr} (h : w.cell? ⟨b, o, none⟩ = some (.pointer x)) : (Instr.loadAt 88 (.pointer (some ⟨b, o, none⟩))).run Tryz.prog w = .ok (.pointer x) w := by
  go_simp
theorem yield_ptrS {w : World} {b o : Nat} {x : Option Addr} (a : Act) (op : Oper) (y : Operand) (ho : op.op = .load 88 y) (hx : a.eval y = .pointer (some ⟨b, o, none⟩)) (h : w.cell? ⟨b, o, none⟩ = some (.pointer x)) :
    (execOp a.eval op).run Tryz.prog w = .ok (.value (.pointer x)) w := by
  have e := load_ptrS h
  obtain ⟨op, _, _, _, _, _⟩ := op
  dsimp only at ho
  subst ho
  unfold execOp
  simp only [hx]
  simp [e]
theorem load_mapI {w : World} {b o : Nat} {x : Option Nat} (h : w.cell? ⟨b, o, none⟩ = some (.map x)) : (Instr.loadAt 95 (.pointer (some ⟨b, o, none⟩))).run Tryz.prog w = .ok (.map x) w := by
  go_simp
theorem yield_mapI {w : World} {b o : Nat} {x : Option Nat} (a : Act) (op : Oper) (y : Operand) (ho : op.op = .load 95 y) (hx : a.eval y = .pointer (some ⟨b, o, none⟩)) (h : w.cell? ⟨b, o, none⟩ = some (.map x)) :
    (execOp a.eval op).run Tryz.prog w = .ok (.value (.map x)) w := by
  have e := load_mapI h
  obtain ⟨op, _, _, _, _, _⟩ := op
  dsimp only at ho
  subst ho
  unfold execOp
  simp only [hx]
  simp [e]
theorem yield_lenI {w : World} {hb k : Nat} {D : Nat → Option Nat} (a : Act) (op : Oper) (y : Operand) (ho : op.op = .call { callee := .builtin .len, args := #[y], argTypes := #[95] }) (hx : a.eval y = .map (some hb)) (h : Mi w hb k D) :
    (execOp a.eval op).run Tryz.prog w = .ok (.value (.int .i64 (k : Int))) w := by
  have e := h.len
  obtain ⟨op, _, ty, _, _, _⟩ := op
  dsimp only at ho
  subst ho
  unfold execOp
  simp [go_sem] at hx ⊢
  simp [hx, e]
section
variable {P : Pm} {n : Nat} {w : World} {Fm Gs : Nat → Prop} {C : Nat → List Int} {R : Nat → Nat → Wy} {S : Tt} {c : Nat} {s : Ss} {fr : Nat → Option Nat}
theorem sused_any (h : SpX P n w Fm Gs C R S c s fr) : Calls Tryz.prog 10 #[.pointer (some ⟨P.xp, 0, none⟩)] w fun r w' => r = .returned (.tuple #[.int .i64 (S.used : Int), .int .i64 (countS s : Int)]) ∧ Chg no w w' := by
  have c4 : w.cell? ⟨P.xp, 4, none⟩ = some (.pointer (some ⟨P.sp, 0, none⟩)) := h.blk.cell 4
  have c10 : w.cell? ⟨P.xp, 10, none⟩ = some (.map (some P.hb)) := h.blk.cell 10
  have h1 := sused13_any (h.sp.ts.chg (Chg.drew no w) (fun _ _ h => h))
  have H1 := Lib.hid h1; have HM := Lib.hid h.map
  clear h h1
  go_enter Tryz.func10, Tryz.ntmps10
  go_upto_region 3 with (fail)
  refine wp_region_held_drew (S := fun w' => w'.cell? ⟨P.xp, 4, none⟩ = some (.pointer (some ⟨P.sp, 0, none⟩)) ∧ w'.cell? ⟨P.xp, 10, none⟩ = some (.map (some P.hb)) ∧ Mi w' P.hb (countS s) (fun p => fr (262144 + p))) (by kernel_rfl) ⟨c4, c10, HM.out⟩ (fun hHeld => ?_)
  simp only [List.size_toArray, List.length_cons, List.length_nil, Nat.reduceAdd]
  rw [show Array.replicate 12 false = [false, false, false, false, false, false, false, false, false, false, false, false].toArray from rfl]
  refine wpAnyH_take (i := 0) (v := ?_) rfl (by kernel_rfl) (by kernel_rfl) (by kernel_rfl) (fun _ _ _ h => h) (Or.inl ⟨by rfl, ?yldq⟩) (by assumption) ?_
  case yldq => (intro w hSw; (try dsimp only at hSw); go_simp; try with_reducible rfl)
  try simp only [Act.put, List.setIfInBounds_toArray, List.set_cons_zero, List.set_cons_succ, List.getElem_toArray, List.getElem_cons_succ, List.getElem_cons_zero]
  refine wpAnyH_take (i := 1) (v := ?_) rfl (by kernel_rfl) (by kernel_rfl) (by kernel_rfl) (fun _ _ _ h => h) (Or.inl ⟨by rfl, ?yldq⟩) (by assumption) ?_
  case yldq => (intro w hSw; (try dsimp only at hSw); go_simp; try with_reducible rfl)
  try simp only [Act.put, List.setIfInBounds_toArray, List.set_cons_zero, List.set_cons_succ, List.getElem_toArray, List.getElem_cons_succ, List.getElem_cons_zero]
  refine wpAnyH_take (i := 2) (v := ?_) rfl (by kernel_rfl) (by kernel_rfl) (by kernel_rfl) (fun _ _ _ h => h) (Or.inl ⟨by rfl, ?yldq⟩) (by assumption) ?_
  case yldq => (intro w hSw; (try dsimp only at hSw); go_simp; try with_reducible rfl)
  try simp only [Act.put, List.setIfInBounds_toArray, List.set_cons_zero, List.set_cons_succ, List.getElem_toArray, List.getElem_cons_succ, List.getElem_cons_zero]
  refine wpAnyH_take (i := 3) (v := _) rfl (by kernel_rfl) (by kernel_rfl) (by kernel_rfl) (fun _ _ _ h => h) (Or.inl ⟨by rfl, fun w hSw => yield_ptrS _ _ _ rfl rfl hSw.1⟩) (by assumption) ?_
  try simp only [Act.put, List.setIfInBounds_toArray, List.set_cons_zero, List.set_cons_succ, List.getElem_toArray, List.getElem_cons_succ, List.getElem_cons_zero]
  refine wpAnyH_take (i := 5) (v := ?_) rfl (by kernel_rfl) (by kernel_rfl) (by kernel_rfl) (fun _ _ _ h => h) (Or.inl ⟨by rfl, ?yldq⟩) (by assumption) ?_
  case yldq => (intro w hSw; (try dsimp only at hSw); go_simp; try with_reducible rfl)
  try simp only [Act.put, List.setIfInBounds_toArray, List.set_cons_zero, List.set_cons_succ, List.getElem_toArray, List.getElem_cons_succ, List.getElem_cons_zero]
  refine wpAnyH_take (i := 6) (v := ?_) rfl (by kernel_rfl) (by kernel_rfl) (by kernel_rfl) (fun _ _ _ h => h) (Or.inl ⟨by rfl, ?yldq⟩) (by assumption) ?_
  case yldq => (intro w hSw; (try dsimp only at hSw); go_simp; try with_reducible rfl)
  try simp only [Act.put, List.setIfInBounds_toArray, List.set_cons_zero, List.set_cons_succ, List.getElem_toArray, List.getElem_cons_succ, List.getElem_cons_zero]
  refine wpAnyH_take (i := 7) (v := ?_) rfl (by kernel_rfl) (by kernel_rfl) (by kernel_rfl) (fun _ _ _ h => h) (Or.inl ⟨by rfl, ?yldq⟩) (by assumption) ?_
  case yldq => (intro w hSw; (try dsimp only at hSw); go_simp; try with_reducible rfl)
  try simp only [Act.put, List.setIfInBounds_toArray, List.set_cons_zero, List.set_cons_succ, List.getElem_toArray, List.getElem_cons_succ, List.getElem_cons_zero]
  refine wpAnyH_take (i := 8) (v := _) rfl (by kernel_rfl) (by kernel_rfl) (by kernel_rfl) (fun _ _ _ h => h) (Or.inl ⟨by rfl, fun w hSw => yield_mapI _ _ _ rfl rfl hSw.2.1⟩) (by assumption) ?_
  try simp only [Act.put, List.setIfInBounds_toArray, List.set_cons_zero, List.set_cons_succ, List.getElem_toArray, List.getElem_cons_succ, List.getElem_cons_zero]
  refine wpAnyH_ready (rs := [4]) (by kernel_rfl) (by simp) ?_
  refine AllReadyH.cons rfl (fun K hK => ?_) AllReadyH.nil
  go_simp
  refine H1.out.mono ?_
  rintro e wx ⟨rfl, rfl⟩
  refine hK.out _ _ ⟨c4, c10, HM.out.chg (Chg.drew no w) (fun h => h)⟩ (fun hS4 => ?_)
  clear hK K
  refine wpAnyH_take (i := 9) (v := _) rfl (by kernel_rfl) (by kernel_rfl) (by kernel_rfl) (fun _ _ _ h => h) (Or.inl ⟨by rfl, fun w hSw => yield_lenI _ _ _ rfl rfl hSw.2.2⟩) (by assumption) ?_
  try simp only [Act.put, List.setIfInBounds_toArray, List.set_cons_zero, List.set_cons_succ, List.getElem_toArray, List.getElem_cons_succ, List.getElem_cons_zero]
  refine wpAnyH_take (i := 10) (v := ?_) rfl (by kernel_rfl) (by kernel_rfl) (by kernel_rfl) (fun _ _ _ h => h) (Or.inl ⟨by rfl, ?yldq⟩) (by assumption) ?_
  case yldq => (intro w hSw; (try dsimp only at hSw); go_simp; try with_reducible rfl)
  try simp only [Act.put, List.setIfInBounds_toArray, List.set_cons_zero, List.set_cons_succ, List.getElem_toArray, List.getElem_cons_succ, List.getElem_cons_zero]
  refine wpAnyH_take (i := 11) (v := ?_) rfl (by kernel_rfl) (by kernel_rfl) (by kernel_rfl) (fun _ _ _ h => h) (Or.inl ⟨by rfl, ?yldq⟩) (by assumption) ?_
  case yldq => (intro w hSw; (try dsimp only at hSw); go_simp; try with_reducible rfl)
  try simp only [Act.put, List.setIfInBounds_toArray, List.set_cons_zero, List.set_cons_succ, List.getElem_toArray, List.getElem_cons_succ, List.getElem_cons_zero]
  refine wpAnyH_done (by kernel_rfl) ?_ _
  go_wp2
  go_ret2
  exact ⟨rfl, Chg.drew _ _⟩
theorem sslots_any (h : SpX P n w Fm Gs C R S c s fr) : Calls Tryz.prog 21 #[.pointer (some ⟨P.xp, 0, none⟩)] w fun r w' => (∃ v, r = .returned v ∧ LiesS sloT 16 w' v (lstT R P.m P.N) ∧ ∀ j, v.ownBlock = some j → w.heap.size ≤ j ∧ j < w'.heap.size) ∧ Below w.heap.size w w' := by
  have c6 : w.cell? ⟨P.xp, 6, none⟩ = some (.pointer (some ⟨P.bp, 0, none⟩)) := h.blk.cell 6
  have h1 := list_any P.bp P.q P.g P.N P.m R w h.sp.un.buf
  obtain ⟨e1, e2⟩ := lstT_C R P.m P.N
  rw [e1, ← e2] at h1
  have H1 := Lib.hid h1
  clear h h1 e1 e2
  go_enter Tryz.func21, Tryz.ntmps21
  go_wp2_with fail
  refine H1.out.mono ?_
  rintro e w1 ⟨v, rfl, ho, hb⟩
  have HO := Lib.hid ho; have HB := Lib.hid hb
  clear ho hb
  go_wp2
  go_ret
  exact ⟨⟨v, rfl, lies_own sloT_len HO.out, fun j hj => HO.out.lt j hj⟩, HB.out⟩
theorem spagesl_any (h : SpX P n w Fm Gs C R S c s fr) (hc : c ≤ 1000) : Calls Tryz.prog 22 #[.pointer (some ⟨P.xp, 0, none⟩)] w fun r w' => (∃ v, r = .returned v ∧ LiesS pgC 12 w' v (subP 0 S.L S.T 3 0) ∧ ∀ j, v.ownBlock = some j → w.heap.size ≤ j ∧ j < w'.heap.size) ∧ Chg no w w' := by
  have c5 : w.cell? ⟨P.xp, 5, none⟩ = some (.pointer (some ⟨P.tp, 0, none⟩)) := h.blk.cell 5
  have hl := sub_len h.rt
  have hl2 := h.len
  have h1 := pages13_any h.sp.ts (by omega)
  have H1 := Lib.hid h1
  clear h h1 hl hl2
  go_enter Tryz.func22, Tryz.ntmps22
  go_wp2_with fail
  refine H1.out.mono ?_
  rintro e w1 ⟨⟨v, rfl, hl, h2, h3⟩, hb⟩
  have HL := Lib.hid hl; have HB := Lib.hid hb; have H2 := Lib.hid h2; have H3 := Lib.hid h3
  clear hl hb h2 h3
  go_wp2
  go_ret
  exact ⟨⟨v, rfl, HL.out, fun j hj => ⟨H2.out j hj, H3.out j hj⟩⟩, HB.out⟩
end
end Go.Proofs.YtgnjbjbgfhjakaaGreat

namespace Go.Proofs.YtgnjbjbgfhjakaaGreat
open Go.RowKit
set_option linter.unusedVariables false
set_option linter.unusedSimpArgs false
attribute [local go_sem] setCell_drewN alloc_drewN

theorem num_and (v : Nat) (hv : v < 18446744073709551616) : bits .and .u64 ((v : Int) / 4096) 134217727 = ((v / 4096 % 134217728 : Nat) : Int) := by
  have h := take_eq v 12 27 hv (by decide)
  have e1 : IntKind.u64.wrap (IntKind.u64.wrap (2 ^ 27) - 1) = 134217727 := by decide
  have e2 : ((2 : Int) ^ 12) = 4096 := by decide
  rw [e1, e2] at h
  rw [h]
  rfl
section
variable {P : Pm} {n : Nat} {w : World} {Fm Gs : Nat → Prop} {C : Nat → List Int} {R : Nat → Nat → Wy} {S : Tt} {c : Nat} {s : Ss} {fr : Nat → Option Nat}
set_option maxHeartbeats 16000000 in
theorem sound_any (h : SpX P n w Fm Gs C R S c s fr) (hc : c ≤ 1000) : Calls Tryz.prog 27 #[.pointer (some ⟨P.xp, 0, none⟩)] w fun r w' => r = .returned (.bool true) ∧ Below w.heap.size w w' := by
  have h1 := spagesl_any h hc
  have h2 := fun (w1 : World) (hb : Chg no w w1) => sslots_any (h.chg hb (fun _ _ h => h))
  have hco : ∀ y ∈ lstT R P.m P.N, ∃ q, ∃ hq : q < (subP 0 S.L S.T 3 0).length, y.2.2.l.e = (subP 0 S.L S.T 3 0)[q].e ∧ y.2.2.l.lv = 0 ∧ y.2.2.page = numN (subP 0 S.L S.T 3 0)[q].va 0 := fun y hy => by
    obtain ⟨i, j, hi, hj, rfl, hf⟩ := lstT_mem hy
    obtain ⟨p, hp, e1, e2, e3, e4⟩ := h.sp.coh i j hi hj hf
    obtain ⟨q, hq, hqp⟩ := List.getElem_of_mem ((mem_all h.rt p).2 hp)
    exact ⟨q, hq, by rw [hqp]; exact e1, e2, by rw [hqp]; exact e4⟩
  have hl0 : ∀ q, (hq : q < (subP 0 S.L S.T 3 0).length) → (subP 0 S.L S.T 3 0)[q].lv = 0 ∧ (subP 0 S.L S.T 3 0)[q].va < 18446744073709551616 := fun q hq => by
    have hm := (mem_all h.rt _).1 (List.getElem_mem hq)
    exact ⟨h.sp.lv0 _ hm, (h.rt.pagesOk _ hm).1⟩
  generalize subP 0 S.L S.T 3 0 = L at *
  generalize lstT R P.m P.N = TL at *
  have H1 := Lib.hid h1; have H2 := Lib.hid h2; have HCO := Lib.hid hco; have HL0 := Lib.hid hl0
  clear h h1 h2 hco hl0 hc
  go_enter Tryz.func27, Tryz.ntmps27
  go_wp2_with fail
  refine H1.out.mono ?_
  rintro e w1 ⟨⟨v1, rfl, hl, ho⟩, hc1⟩
  obtain ⟨A1, cap1, rfl, hcp, hcm, hcel⟩ := hl
  have HC1 := Lib.hid hc1; have HO1 := Lib.hid ho; have HL1 := Lib.hid hcel; have HCP1 := Lib.hid hcp; have HCM1 := Lib.hid hcm
  clear hc1 ho hcp hcm hcel
  go_wp2_with fail
  refine (H2.out w1 HC1.out).mono ?_
  rintro e w2 ⟨⟨v2, rfl, hl, ho⟩, hb2⟩
  obtain ⟨A2, cap2, rfl, hcp, hcm, hcel⟩ := hl
  have hP : ∀ wr, Below w2.heap.size w2 wr → ∀ i, (hi : i < L.length) → ∃ g, A1 = some ⟨g, 0, none⟩ ∧ ∀ j, j < 12 → wr.cell? ⟨g, i * 12 + j, none⟩ = (pgC L[i])[j]? := fun wr hb i hi => by
    obtain ⟨g, rfl, hh⟩ := HL1.out (by omega)
    refine ⟨g, rfl, fun j hj => ?_⟩
    have hg := HO1.out g rfl
    have h9 := hh i hi j hj
    have hgl := hg.2
    have hsz := hb2.size
    exact (World.cell?_of_block (w := w1) (a := ⟨g, i * 12 + j, none⟩) ((hb.block g (by omega)).trans (hb2.block g hgl))).trans h9
  have hT : ∀ wr, Below w2.heap.size w2 wr → ∀ i, (hi : i < TL.length) → ∃ g, A2 = some ⟨g, 0, none⟩ ∧ ∀ j, j < 16 → wr.cell? ⟨g, i * 16 + j, none⟩ = (sloT TL[i])[j]? := fun wr hb i hi => by
    obtain ⟨g, rfl, hh⟩ := hcel (by omega)
    refine ⟨g, rfl, fun j hj => ?_⟩
    have hg := ho g rfl
    exact (World.cell?_of_block (w := w2) (a := ⟨g, i * 16 + j, none⟩) (hb.block g hg.2)).trans (hh i hi j hj)
  have HC2 := Lib.hid (HC1.out.none.trans (hb2.mono HC1.out.size)); have HP := Lib.hid hP; have HT := Lib.hid hT; have HCP2 := Lib.hid hcp; have HCM2 := Lib.hid hcm
  clear hb2 ho hcp hcm hcel hP hT HL1 HO1
  go_upto_region 3 with (fail)
  go_loopw [14] (fun i wr => ∃ k : Nat, k ≤ TL.length ∧ i = .int .i64 (k : Int) ∧ Below w2.heap.size w2 wr) (fun i _ => TL.length - (intOf i).toNat)
  case atStart => exact ⟨0, Nat.zero_le _, rfl, Below.refl _ _⟩
  case round =>
    obtain ⟨k, hk, rfl, hb⟩ := hrel
    obtain ⟨wo, hwo⟩ : ∃ x : World, x = wr := ⟨_, rfl⟩
    subst hwo
    have HB := Lib.hid hb
    clear hb
    by_cases hlt : k < TL.length
    rotate_left
    · obtain rfl : k = TL.length := by omega
      clear hlt hk
      go_wp2
      go_ret
      exact ⟨rfl, HC2.out.trans (HB.out.mono HC2.out.size)⟩
    have hki : (k : Int) < (TL.length : Int) := by omega
    have hme : TL.length - (k + 1) < TL.length - k := by omega
    have hcapk : (k : Int) + 1 ≤ 9223372036854775807 := by have := HCP2.out; have := HCM2.out; unfold maxLen at this; omega
    have hk1 : IntKind.i64.wrap ((k : Int) + 1) = ((k + 1 : Nat) : Int) := by simp [IntKind.wrap, IntKind.bits, IntKind.signed]; omega
    obtain ⟨gT, rfl, hcT⟩ := HT.out wo HB.out k hlt
    obtain ⟨qp, hqp, ee, elv, epg⟩ := HCO.out TL[k] (List.getElem_mem hlt)
    unfold sloT sloC at hcT
    generalize TL[k] = y at *
    obtain ⟨si, sj, ⟨full, asd, pgn, ⟨⟨v, r, x1, x, u, g, a, d, rsw, ppn⟩, lv, pl⟩⟩⟩ := y
    dsimp only at hcT ee elv epg
    subst elv
    have q0 := hcT 0 (by omega)
    have t0 : wo.cell? ⟨gT, k * 16, none⟩ = some _ := hcT 0 (by omega)
    have t1 : wo.cell? ⟨gT, k * 16 + 1, none⟩ = some _ := hcT 1 (by omega)
    have t2 : wo.cell? ⟨gT, k * 16 + 2, none⟩ = some _ := hcT 2 (by omega)
    have t3 : wo.cell? ⟨gT, k * 16 + 3, none⟩ = some _ := hcT 3 (by omega)
    have t4 : wo.cell? ⟨gT, k * 16 + 4, none⟩ = some _ := hcT 4 (by omega)
    have t5 : wo.cell? ⟨gT, k * 16 + 5, none⟩ = some _ := hcT 5 (by omega)
    have t6 : wo.cell? ⟨gT, k * 16 + 6, none⟩ = some _ := hcT 6 (by omega)
    have t7 : wo.cell? ⟨gT, k * 16 + 7, none⟩ = some _ := hcT 7 (by omega)
    have t8 : wo.cell? ⟨gT, k * 16 + 8, none⟩ = some _ := hcT 8 (by omega)
    have t9 : wo.cell? ⟨gT, k * 16 + 9, none⟩ = some _ := hcT 9 (by omega)
    have t10 : wo.cell? ⟨gT, k * 16 + 10, none⟩ = some _ := hcT 10 (by omega)
    have t11 : wo.cell? ⟨gT, k * 16 + 11, none⟩ = some _ := hcT 11 (by omega)
    have t12 : wo.cell? ⟨gT, k * 16 + 12, none⟩ = some _ := hcT 12 (by omega)
    have t13 : wo.cell? ⟨gT, k * 16 + 13, none⟩ = some _ := hcT 13 (by omega)
    have t14 : wo.cell? ⟨gT, k * 16 + 14, none⟩ = some _ := hcT 14 (by omega)
    have t15 : wo.cell? ⟨gT, k * 16 + 15, none⟩ = some _ := hcT 15 (by omega)
    clear q0
    have CE := Lib.hid ee; have CP := Lib.hid epg; have HQP := Lib.hid hqp; have HKK := Lib.hid hk1; have HME := Lib.hid hme; have HLT := Lib.hid hlt
    clear hcT ee epg hk1 hme hlt hk hcapk
    go_upto_region 5 with (fail)
    have nb0 := Blk.new wo [.int .i64 (si : Int), .int .i64 (sj : Int), .int .i64 asd, .int .u64 (pgn : Int), .bool v, .bool r, .bool x1, .bool x, .bool u, .bool g, .bool a, .bool d, .int .i64 rsw, .int .u64 (ppn : Int), .int .i64 0, .int .u64 (pl : Int)] 120
    have nls : Below wo.heap.size wo wo := (Below.refl wo.heap.size wo)
    have nl0 := nls.alloc nls.size (.cells #[.int .i64 (si : Int), .int .i64 (sj : Int), .int .i64 asd, .int .u64 (pgn : Int), .bool v, .bool r, .bool x1, .bool x, .bool u, .bool g, .bool a, .bool d, .int .i64 rsw, .int .u64 (ppn : Int), .int .i64 0, .int .u64 (pl : Int)] 120)
    have nl : Below wo.heap.size wo (wo.alloc (.cells #[.int .i64 (si : Int), .int .i64 (sj : Int), .int .i64 asd, .int .u64 (pgn : Int), .bool v, .bool r, .bool x1, .bool x, .bool u, .bool g, .bool a, .bool d, .int .i64 rsw, .int .u64 (ppn : Int), .int .i64 0, .int .u64 (pl : Int)] 120)) := nl0; clear nls nl0
    obtain ⟨B1, hB0⟩ : ∃ B, B = wo.heap.size := ⟨_, rfl⟩
    obtain ⟨W1, hW⟩ : ∃ W, W = (wo.alloc (.cells #[.int .i64 (si : Int), .int .i64 (sj : Int), .int .i64 asd, .int .u64 (pgn : Int), .bool v, .bool r, .bool x1, .bool x, .bool u, .bool g, .bool a, .bool d, .int .i64 rsw, .int .u64 (ppn : Int), .int .i64 0, .int .u64 (pl : Int)] 120)) := ⟨_, rfl⟩
    rw [← hW] at nl nb0
    rw [← hB0] at nb0
    rw [← hW]
    try rw [← hB0]
    have K1_0 := Lib.hid nb0
    have G1 : Hid (wo.heap.size ≤ B1) := Lib.hid (by have := (Nat.le_refl wo.heap.size); omega)
    have L1 := Lib.hid nl
    clear nl hW nb0 hB0
    clear t0 t1 t2 t3 t4 t5 t6 t7 t8 t9 t10 t11 t12 t13 t14 t15
    go_upto_region 7 with (fail)
    go_loopw [6, 20] (fun ia ix wr => ∃ (k2 : Nat) (I : Bool), k2 ≤ L.length ∧ ia = .bool I ∧ ix = .int .i64 (k2 : Int) ∧ (qp < k2 → I = true) ∧ Blk wr B1 [.int .i64 (si : Int), .int .i64 (sj : Int), .int .i64 asd, .int .u64 (pgn : Int), .bool v, .bool r, .bool x1, .bool x, .bool u, .bool g, .bool a, .bool d, .int .i64 rsw, .int .u64 (ppn : Int), .int .i64 0, .int .u64 (pl : Int)] 120 ∧ Below wo.heap.size wo wr) (fun ia ix _ => L.length - (intOf ix).toNat)
    case atStart => exact ⟨0, false, Nat.zero_le _, rfl, rfl, fun h => absurd h (Nat.not_lt_zero _), K1_0.out, L1.out⟩
    case round =>
      obtain ⟨k2, I, hk2, rfl, rfl, hI, hbx, hbl⟩ := hrel
      have KX := Lib.hid hbx; have LX := Lib.hid hbl; have HI := Lib.hid hI
      clear hbx hbl hI
      by_cases hlt2 : k2 < L.length
      rotate_left
      · obtain rfl : I = true := HI.out (by have := HQP.out; omega)
        have hn : ¬ ((k2 : Int) < (L.length : Int)) := by omega
        have hk1 := HKK.out
        clear hlt2 hk2 HI
        go_wp2
        refine ⟨⟨k + 1, HLT.out, congrArg (Value.int .i64) (by first | rfl | omega), HB.out.trans (LX.out.mono HB.out.size)⟩, ?_⟩
        have := HME.out
        simp only [intOf]
        omega
      have hki2 : (k2 : Int) < (L.length : Int) := by omega
      have hme2 : L.length - (k2 + 1) < L.length - k2 := by omega
      have hcapk2 : (k2 : Int) + 1 ≤ 9223372036854775807 := by have := HCP1.out; have := HCM1.out; unfold maxLen at this; omega
      have hk12 : IntKind.i64.wrap ((k2 : Int) + 1) = ((k2 + 1 : Nat) : Int) := by simp [IntKind.wrap, IntKind.bits, IntKind.signed]; omega
      obtain ⟨gM, rfl, hcM⟩ := HP.out wr (HB.out.trans (LX.out.mono HB.out.size)) k2 hlt2
      have hm0 := HL0.out k2 hlt2
      have hEG : k2 = qp → (⟨v, r, x1, x, u, g, a, d, rsw, ppn⟩ : Ent) = L[k2].e ∧ pgn = numN L[k2].va 0 := fun e => by subst e; exact ⟨CE.out, CP.out⟩
      unfold pgC at hcM
      have HKK2 := Lib.hid hk12; have HME2 := Lib.hid hme2; have HLT2 := Lib.hid hlt2
      generalize L[k2] = m at *
      clear hk12 hme2 hlt2 hk2 hcapk2
      obtain ⟨mva, mlv, ⟨v2, r2, y2, x2, u2, g2, a2, d2, rsw2, ppn2⟩⟩ := m
      dsimp only at hm0 hEG hcM
      obtain ⟨rfl, hmva⟩ := hm0
      have p0 : wr.cell? ⟨gM, k2 * 12, none⟩ = some _ := hcM 0 (by omega)
      have p1 : wr.cell? ⟨gM, k2 * 12 + 1, none⟩ = some _ := hcM 1 (by omega)
      have p2 : wr.cell? ⟨gM, k2 * 12 + 2, none⟩ = some _ := hcM 2 (by omega)
      have p3 : wr.cell? ⟨gM, k2 * 12 + 3, none⟩ = some _ := hcM 3 (by omega)
      have p4 : wr.cell? ⟨gM, k2 * 12 + 4, none⟩ = some _ := hcM 4 (by omega)
      have p5 : wr.cell? ⟨gM, k2 * 12 + 5, none⟩ = some _ := hcM 5 (by omega)
      have p6 : wr.cell? ⟨gM, k2 * 12 + 6, none⟩ = some _ := hcM 6 (by omega)
      have p7 : wr.cell? ⟨gM, k2 * 12 + 7, none⟩ = some _ := hcM 7 (by omega)
      have p8 : wr.cell? ⟨gM, k2 * 12 + 8, none⟩ = some _ := hcM 8 (by omega)
      have p9 : wr.cell? ⟨gM, k2 * 12 + 9, none⟩ = some _ := hcM 9 (by omega)
      have p10 : wr.cell? ⟨gM, k2 * 12 + 10, none⟩ = some _ := hcM 10 (by omega)
      have p11 : wr.cell? ⟨gM, k2 * 12 + 11, none⟩ = some _ := hcM 11 (by omega)
      have HEG := Lib.hid hEG; have HMV := Lib.hid hmva
      clear hcM hEG hmva
      go_upto_region 9 with (fail)
      have nb0 := Blk.new wr [.int .u64 (mva : Int), .int .i64 0, .bool v2, .bool r2, .bool y2, .bool x2, .bool u2, .bool g2, .bool a2, .bool d2, .int .i64 rsw2, .int .u64 (ppn2 : Int)] 122
      have nls : Below wo.heap.size wo wr := LX.out
      have nl0 := nls.alloc nls.size (.cells #[.int .u64 (mva : Int), .int .i64 0, .bool v2, .bool r2, .bool y2, .bool x2, .bool u2, .bool g2, .bool a2, .bool d2, .int .i64 rsw2, .int .u64 (ppn2 : Int)] 122)
      have nl : Below wo.heap.size wo (wr.alloc (.cells #[.int .u64 (mva : Int), .int .i64 0, .bool v2, .bool r2, .bool y2, .bool x2, .bool u2, .bool g2, .bool a2, .bool d2, .int .i64 rsw2, .int .u64 (ppn2 : Int)] 122)) := nl0; clear nls nl0
      have o0 := (KX.out.alloc (.cells #[.int .u64 (mva : Int), .int .i64 0, .bool v2, .bool r2, .bool y2, .bool x2, .bool u2, .bool g2, .bool a2, .bool d2, .int .i64 rsw2, .int .u64 (ppn2 : Int)] 122))
      have d21_0 : B1 < wr.heap.size := KX.out.lt
      obtain ⟨B21, hB0⟩ : ∃ B, B = wr.heap.size := ⟨_, rfl⟩
      obtain ⟨W21, hW⟩ : ∃ W, W = (wr.alloc (.cells #[.int .u64 (mva : Int), .int .i64 0, .bool v2, .bool r2, .bool y2, .bool x2, .bool u2, .bool g2, .bool a2, .bool d2, .int .i64 rsw2, .int .u64 (ppn2 : Int)] 122)) := ⟨_, rfl⟩
      rw [← hW] at nl nb0 o0
      rw [← hB0] at nb0
      rw [← hW]
      try rw [← hB0]
      have K21_0 := Lib.hid o0
      have K21_1 := Lib.hid nb0
      have G21 : Hid (wo.heap.size ≤ B21) := Lib.hid (by have := LX.out.size; omega)
      have x21_0_0 : B1 ≠ B21 := by omega
      have X21_0_0 := Lib.hid x21_0_0; clear x21_0_0
      have L21 := Lib.hid nl
      clear nl hW nb0 hB0 o0 d21_0 KX
      clear p0 p1 p2 p3 p4 p5 p6 p7 p8 p9 p10 p11
      cases I
      · by_cases hq : k2 = qp
        · obtain ⟨h1, h2⟩ := HEG.out hq
          injection h1 with h1 h3 h4 h5 h6 h7 h8 h9 h10 h11
          subst h1 h3 h4 h5 h6 h7 h8 h9 h10 h11
          have HH2 := Lib.hid h2
          clear h2 hq HEG
          have m0_0 := K21_0.out.c0
          have m0_1 := K21_0.out.c1
          have m0_2 := K21_0.out.c2
          have m0_3 := K21_0.out.c3
          have m0_4 := K21_0.out.c4
          have m0_5 := K21_0.out.c5
          have m0_6 := K21_0.out.c6
          have m0_7 := K21_0.out.c7
          have m0_8 := K21_0.out.c8
          have m0_9 := K21_0.out.c9
          have m0_10 := K21_0.out.c10
          have m0_11 := K21_0.out.c11
          have m0_12 := K21_0.out.c12
          have m0_13 := K21_0.out.c13
          have m0_14 := K21_0.out.c14
          have m0_15 := K21_0.out.c15
          have mlt0 : B1 < W21.heap.size := K21_0.out.lt
          have m1_0 := K21_1.out.c0
          have m1_1 := K21_1.out.c1
          have m1_2 := K21_1.out.c2
          have m1_3 := K21_1.out.c3
          have m1_4 := K21_1.out.c4
          have m1_5 := K21_1.out.c5
          have m1_6 := K21_1.out.c6
          have m1_7 := K21_1.out.c7
          have m1_8 := K21_1.out.c8
          have m1_9 := K21_1.out.c9
          have m1_10 := K21_1.out.c10
          have m1_11 := K21_1.out.c11
          have mlt1 : B21 < W21.heap.size := K21_1.out.lt
          have hk12 := HKK2.out
          go_wp2
          clear m0_0 m0_1 m0_2 m0_3 m0_4 m0_5 m0_6 m0_7 m0_8 m0_9 m0_10 m0_11 m0_12 m0_13 m0_14 m0_15 mlt0 m1_0 m1_1 m1_2 m1_3 m1_4 m1_5 m1_6 m1_7 m1_8 m1_9 m1_10 m1_11 mlt1
          have hbit : ((pgn : Int) == bits .and .u64 ((mva : Int) / 4096) 134217727) = true := by
            have e := HH2.out
            rw [numN_zero] at e
            rw [num_and mva HMV.out, e]
            simp
          rw [hbit]
          refine ⟨⟨k2 + 1, true, HLT2.out, rfl, congrArg (Value.int .i64) (by first | rfl | omega), fun _ => rfl, K21_0.out, L21.out⟩, ?_⟩
          have := HME2.out
          simp only [intOf]
          omega
        · have HQN := Lib.hid hq; clear hq
          have m0_0 := K21_0.out.c0
          have m0_1 := K21_0.out.c1
          have m0_2 := K21_0.out.c2
          have m0_3 := K21_0.out.c3
          have m0_4 := K21_0.out.c4
          have m0_5 := K21_0.out.c5
          have m0_6 := K21_0.out.c6
          have m0_7 := K21_0.out.c7
          have m0_8 := K21_0.out.c8
          have m0_9 := K21_0.out.c9
          have m0_10 := K21_0.out.c10
          have m0_11 := K21_0.out.c11
          have m0_12 := K21_0.out.c12
          have m0_13 := K21_0.out.c13
          have m0_14 := K21_0.out.c14
          have m0_15 := K21_0.out.c15
          have mlt0 : B1 < W21.heap.size := K21_0.out.lt
          have m1_0 := K21_1.out.c0
          have m1_1 := K21_1.out.c1
          have m1_2 := K21_1.out.c2
          have m1_3 := K21_1.out.c3
          have m1_4 := K21_1.out.c4
          have m1_5 := K21_1.out.c5
          have m1_6 := K21_1.out.c6
          have m1_7 := K21_1.out.c7
          have m1_8 := K21_1.out.c8
          have m1_9 := K21_1.out.c9
          have m1_10 := K21_1.out.c10
          have m1_11 := K21_1.out.c11
          have mlt1 : B21 < W21.heap.size := K21_1.out.lt
          have hk12 := HKK2.out
          go_wp2
          all_goals
            refine ⟨⟨k2 + 1, _, HLT2.out, rfl, congrArg (Value.int .i64) (by first | rfl | omega), fun h => absurd (HI.out (by have := HQN.out; omega)) (by simp), K21_0.out, L21.out⟩, ?_⟩
            have := HME2.out
            simp only [intOf]
            omega
      · have m0_0 := K21_0.out.c0
        have m0_1 := K21_0.out.c1
        have m0_2 := K21_0.out.c2
        have m0_3 := K21_0.out.c3
        have m0_4 := K21_0.out.c4
        have m0_5 := K21_0.out.c5
        have m0_6 := K21_0.out.c6
        have m0_7 := K21_0.out.c7
        have m0_8 := K21_0.out.c8
        have m0_9 := K21_0.out.c9
        have m0_10 := K21_0.out.c10
        have m0_11 := K21_0.out.c11
        have m0_12 := K21_0.out.c12
        have m0_13 := K21_0.out.c13
        have m0_14 := K21_0.out.c14
        have m0_15 := K21_0.out.c15
        have mlt0 : B1 < W21.heap.size := K21_0.out.lt
        have m1_0 := K21_1.out.c0
        have m1_1 := K21_1.out.c1
        have m1_2 := K21_1.out.c2
        have m1_3 := K21_1.out.c3
        have m1_4 := K21_1.out.c4
        have m1_5 := K21_1.out.c5
        have m1_6 := K21_1.out.c6
        have m1_7 := K21_1.out.c7
        have m1_8 := K21_1.out.c8
        have m1_9 := K21_1.out.c9
        have m1_10 := K21_1.out.c10
        have m1_11 := K21_1.out.c11
        have mlt1 : B21 < W21.heap.size := K21_1.out.lt
        have hk12 := HKK2.out
        go_wp2
        clear m0_0 m0_1 m0_2 m0_3 m0_4 m0_5 m0_6 m0_7 m0_8 m0_9 m0_10 m0_11 m0_12 m0_13 m0_14 m0_15 mlt0 m1_0 m1_1 m1_2 m1_3 m1_4 m1_5 m1_6 m1_7 m1_8 m1_9 m1_10 m1_11 mlt1
        refine ⟨⟨k2 + 1, true, HLT2.out, rfl, congrArg (Value.int .i64) (by first | rfl | omega), fun _ => rfl, K21_0.out, L21.out⟩, ?_⟩
        have := HME2.out
        simp only [intOf]
        omega
end
end Go.Proofs.YtgnjbjbgfhjakaaGreat

namespace Go.Proofs.YtgnjbjbgfhjakaaGreat
open Go.RowKit
set_option linter.unusedVariables false
set_option linter.unusedSimpArgs false

/-- a space of the law's own: made since w0, apart from the law's other blocks E -/
def OsL (n : Nat) (w0 wr : World) (E : Nat → Prop) (xp up : Nat) (s : Ss) (c : Nat) : Prop :=
  ∃ P Fm Gs C R S fr, P.xp = xp ∧ P.up = up ∧ SpX P n wr Fm Gs C R S c s fr ∧ (∀ j, FpX P Fm Gs j → w0.heap.size ≤ j) ∧ Chg no w0 wr ∧ ∀ j, E j → ¬ FpX P Fm Gs j ∧ j < wr.heap.size
/-- what a call leaves of the law's other blocks -/
def KpE (E : Nat → Prop) (w w' : World) : Prop := ∀ j, E j → w'.heap[j]? = w.heap[j]?
section
variable {n : Nat} {w0 w w' wr : World} {E : Nat → Prop} {xp up : Nat} {s : Ss} {c c' : Nat}
theorem OsL.below (h : OsL n w0 w E xp up s c) (hb : Below w.heap.size w w') : OsL n w0 w' E xp up s c := by
  obtain ⟨P, Fm, Gs, C, R, S, fr, e1, e2, h1, h2, h3, h4⟩ := h
  exact ⟨P, Fm, Gs, C, R, S, fr, e1, e2, h1.below hb, h2, h3.trans (Chg.of_below hb), fun j hj => ⟨(h4 j hj).1, Nat.lt_of_lt_of_le (h4 j hj).2 hb.size⟩⟩
/-- the law's own blocks change -/
theorem OsL.other (h : OsL n w0 w E xp up s c) (hc : Chg E w w') (hE : ∀ j, E j → w0.heap.size ≤ j) : OsL n w0 w' E xp up s c := by
  obtain ⟨P, Fm, Gs, C, R, S, fr, e1, e2, h1, h2, h3, h4⟩ := h
  exact ⟨P, Fm, Gs, C, R, S, fr, e1, e2, h1.chg hc (fun j hj hE => (h4 j hE).1 hj), h2, h3.thenExt hc (fun j hj => .inr (hE j hj)), fun j hj => ⟨(h4 j hj).1, Nat.lt_of_lt_of_le (h4 j hj).2 hc.size⟩⟩
/-- more blocks beside it -/
theorem OsL.more {E' : Nat → Prop} (h : OsL n w0 w E xp up s c) (hb : Below w.heap.size w w') (hE : ∀ j, E' j → E j ∨ (w.heap.size ≤ j ∧ j < w'.heap.size)) : OsL n w0 w' E' xp up s c := by
  obtain ⟨P, Fm, Gs, C, R, S, fr, e1, e2, h1, h2, h3, h4⟩ := h
  refine ⟨P, Fm, Gs, C, R, S, fr, e1, e2, h1.below hb, h2, h3.trans (Chg.of_below hb), fun j hj => ?_⟩
  rcases hE j hj with h | h
  · exact ⟨(h4 j h).1, Nat.lt_of_lt_of_le (h4 j h).2 hb.size⟩
  · exact ⟨fun e => by have := h1.lt j e; omega, h.2⟩
theorem OsL.wf (h : OsL n w0 w E xp up s c) : Wf s := by
  obtain ⟨P, Fm, Gs, C, R, S, fr, e1, e2, h1, _⟩ := h
  exact h1.tie.wf
theorem OsL.chg0 (h : OsL n w0 w E xp up s c) : Chg no w0 w := by
  obtain ⟨P, Fm, Gs, C, R, S, fr, e1, e2, h1, h2, h3, h4⟩ := h
  exact h3
theorem OsL.mono (h : OsL n w0 w E xp up s c) (hc : c ≤ c') : OsL n w0 w E xp up s c' := by
  obtain ⟨P, Fm, Gs, C, R, S, fr, e1, e2, h1, h2⟩ := h
  exact ⟨P, Fm, Gs, C, R, S, fr, e1, e2, h1.mono hc, h2⟩
/-- from a call's contract -/
theorem os_of {P : Pm} {Fm Gs : Nat → Prop} {s' : Ss} (e1 : P.xp = xp) (e2 : P.up = up) (h2 : ∀ j, FpX P Fm Gs j → w0.heap.size ≤ j) (h3 : Chg no w0 w) (h4 : ∀ j, E j → ¬ FpX P Fm Gs j ∧ j < w.heap.size) (hst : StX P n w w' Fm Gs s' c') : OsL n w0 w' E xp up s' c' ∧ KpE E w w' := by
  obtain ⟨Fm', Gs', C', R', S', fr', k1, k2, k3⟩ := hst
  refine ⟨⟨P, Fm', Gs', C', R', S', fr', e1, e2, k1, fun j hj => (k2 j hj).elim (h2 j) (fun h => Nat.le_trans h3.size h), h3.thenExt k3 (fun j hj => .inr (h2 j hj)), fun j hj => ⟨fun e => (k2 j e).elim (h4 j hj).1 (fun h => by have := (h4 j hj).2; omega), Nat.lt_of_lt_of_le (h4 j hj).2 k3.size⟩⟩, fun j hj => k3.block j (h4 j hj).2 (h4 j hj).1⟩
theorem kp_blk {b t : Nat} {cs : List Value} (h : Blk w b cs t) (hk : KpE E w w') (hb : E b) : Blk w' b cs t := (hk b hb).trans h
theorem os_set (h : OsL n w0 w E xp up s c) (p r : Int) (hc : c < 960) : Calls Tryz.prog 16 #[.pointer (some ⟨xp, 0, none⟩), .int .i64 p, .int .i64 r] w fun x w' => x = .returned (.int .i64 (setS s p r).2) ∧ OsL n w0 w' E xp up (setS s p r).1 (c + 5) ∧ KpE E w w' := by
  obtain ⟨P, Fm, Gs, C, R, S, fr, rfl, rfl, h1, h2, h3, h4⟩ := h
  refine (sset_any h1 p r hc).mono ?_
  rintro x w' ⟨rfl, hst⟩
  exact ⟨rfl, os_of rfl rfl h2 h3 h4 hst⟩
theorem os_right (h : OsL n w0 w E xp up s c) (p : Int) : Calls Tryz.prog 15 #[.pointer (some ⟨xp, 0, none⟩), .int .i64 p] w fun x w' => x = .returned (.int .i64 (rtS s p)) ∧ Below w.heap.size w w' := by
  obtain ⟨P, Fm, Gs, C, R, S, fr, rfl, rfl, h1, h2, h3, h4⟩ := h
  exact sright_any h1 p w (Below.refl _ _)
theorem os_unit (h : OsL n w0 w E xp up s c) : Calls Tryz.prog 13 #[.pointer (some ⟨xp, 0, none⟩)] w fun x w' => x = .returned (.pointer (some ⟨up, 0, none⟩)) ∧ w = w' := by
  obtain ⟨P, Fm, Gs, C, R, S, fr, rfl, rfl, h1, h2, h3, h4⟩ := h
  exact sunit_any h1
theorem os_store (h : OsL n w0 w E xp up s c) (va : Nat) (sz pk v : Int) (hv : va < 18446744073709551616) (hp : -9223372036854775808 ≤ pk ∧ pk < 9223372036854775808) (h0 : 0 ≤ v) (h1 : v ≤ 18446744073709551615) (hn : c < 1000) :
    Calls Tryz.prog 28 #[.pointer (some ⟨up, 0, none⟩), .int .u64 (va : Int), .int .i64 sz, .int .u64 v, .int .i64 pk] w fun x w' => x = .returned (.int .i64 (accS s va sz 2).2) ∧ OsL n w0 w' E xp up (storS s va sz v) (c + 1) ∧ KpE E w w' := by
  obtain ⟨P, Fm, Gs, C, R, S, fr, rfl, rfl, k1, h2, h3, h4⟩ := h
  refine (sstore_any k1 va sz pk v hv hp h0 h1 hn).mono ?_
  rintro x w' ⟨rfl, hst⟩
  exact ⟨rfl, os_of rfl rfl h2 h3 h4 hst⟩
theorem os_load (h : OsL n w0 w E xp up s c) (va : Nat) (sz pk : Int) (hv : va < 18446744073709551616) (hp : -9223372036854775808 ≤ pk ∧ pk < 9223372036854775808) :
    Calls Tryz.prog 29 #[.pointer (some ⟨up, 0, none⟩), .int .u64 (va : Int), .int .i64 sz, .int .i64 pk] w fun x w' => x = .returned (.tuple #[.int .u64 (accS s va sz 1).1, .int .i64 (accS s va sz 1).2]) ∧ OsL n w0 w' E xp up s c ∧ KpE E w w' := by
  obtain ⟨P, Fm, Gs, C, R, S, fr, rfl, rfl, k1, h2, h3, h4⟩ := h
  refine (sload_any k1 va sz pk hv hp).mono ?_
  rintro x w' ⟨rfl, hst⟩
  exact ⟨rfl, os_of rfl rfl h2 h3 h4 hst⟩
theorem os_which (h : OsL n w0 w E xp up s c) (va : Nat) (hv : va < 18446744073709551616) : Calls Tryz.prog 12 #[.pointer (some ⟨xp, 0, none⟩), .int .u64 (va : Int)] w fun x w' => x = .returned (.tuple #[.int .i64 (whichS s va).1, .bool (whichS s va).2]) ∧ Below w.heap.size w w' := by
  obtain ⟨P, Fm, Gs, C, R, S, fr, rfl, rfl, h1, h2, h3, h4⟩ := h
  exact (swhich_any h1 va hv).mono (fun r w' h => ⟨h.1, h.2.none⟩)
theorem os_data (h : OsL n w0 w E xp up s c) (p : Int) : Calls Tryz.prog 17 #[.pointer (some ⟨xp, 0, none⟩), .int .i64 p] w fun x w' => (∃ A cap, x = .returned (.slice A (dataS s p).length cap) ∧ Rd w' A (dataS s p)) ∧ Below w.heap.size w w' := by
  obtain ⟨P, Fm, Gs, C, R, S, fr, rfl, rfl, h1, h2, h3, h4⟩ := h
  exact sdata_any h1 p
theorem os_used (h : OsL n w0 w E xp up s c) : Calls Tryz.prog 10 #[.pointer (some ⟨xp, 0, none⟩)] w fun x w' => x = .returned (.tuple #[.int .i64 ((n - s.free : Nat) : Int), .int .i64 (countS s : Int)]) ∧ Below w.heap.size w w' := by
  obtain ⟨P, Fm, Gs, C, R, S, fr, rfl, rfl, h1, h2, h3, h4⟩ := h
  have e : n - s.free = S.used := by have := h1.tie.free; omega
  rw [e]
  exact (sused_any h1).mono (fun r w' h => ⟨h.1, h.2.none⟩)
theorem os_sound (h : OsL n w0 w E xp up s c) (hc : c ≤ 1000) : Calls Tryz.prog 27 #[.pointer (some ⟨xp, 0, none⟩)] w fun x w' => x = .returned (.bool true) ∧ Below w.heap.size w w' := by
  obtain ⟨P, Fm, Gs, C, R, S, fr, rfl, rfl, h1, h2, h3, h4⟩ := h
  exact sound_any h1 hc
/-- a new one -/
theorem os_new (c p k n N m : Int) (w : World) (he : newE c p k n N m = 0) : Calls Tryz.prog 6 #[.agg #[.int .i64 c, .int .i64 p, .int .i64 k], .int .i64 n, .int .i64 N, .int .i64 m] w fun r w' => ∃ xp up, r = .returned (.tuple #[.pointer (some ⟨xp, 0, none⟩), .int .i64 0]) ∧ OsL n.toNat w w' (fun _ => False) xp up (newS c.toNat p.toNat k.toNat n.toNat) 321 := by
  refine (snew_any c p k n N m w).mono ?_
  rintro r w' ⟨hc, ⟨h, _⟩ | ⟨_, P, Fm, Gs, C, R, S, fr, rfl, hs, hf⟩⟩
  · exact absurd he h
  · exact ⟨P.xp, P.up, rfl, P, Fm, Gs, C, R, S, fr, rfl, rfl, hs, hf, hc, fun j hj => hj.elim⟩
end
end Go.Proofs.YtgnjbjbgfhjakaaGreat

namespace Go.Proofs.YtgnjbjbgfhjakaaGreat
open Go.RowKit
set_option linter.unusedVariables false
set_option linter.unusedSimpArgs false

/-- frames are left for all that is wanted -/
structure Fi (s : Ss) (n : Nat) : Prop where
  wf : Wf s
  len : s.sh.length = n
  n6 : n ≤ 6
  cnt : countS s ≤ n
  free : s.free = (n - countS s) + (if s.lead then 0 else 1) + (if s.tabs.getD 0 false then 0 else 1)
theorem count_lt {s : Ss} {p : Nat} (hp : p < s.sh.length) (hn : (shN s p).has = false) : countS s < s.sh.length := by
  unfold countS
  rw [List.length_filter_lt_length_iff_exists]
  refine ⟨shN s p, ?_, by rw [hn]; decide⟩
  unfold shN
  rw [List.getD_eq_getElem?_getD, List.getElem?_eq_getElem hp]
  exact List.getElem_mem hp
theorem shN_frame (s : Ss) (p q : Nat) : shN (frameS s p).1 q = shN s q ∨ (p = q ∧ (shN s p).has = false ∧ shN (frameS s p).1 q = ⟨(shN s p).rt, true, zP⟩) := by
  unfold frameS
  split
  · exact .inl rfl
  · rename_i hn
    split
    · exact .inl rfl
    · have h := getD_set s.sh p q (⟨(shN s p).rt, true, zP⟩ : Sh) ⟨0, false, []⟩
      by_cases hc : p = q ∧ p < s.sh.length
      · rw [if_pos hc] at h
        refine .inr ⟨hc.1, by simpa using hn, h⟩
      · rw [if_neg hc] at h
        exact .inl h
theorem data_frame (s : Ss) (p : Nat) (q : Int) : dataS (frameS s p).1 q = dataS s q := by
  unfold dataS
  rw [frame_same.2.1]
  split
  · rcases shN_frame s p q.toNat with h | ⟨h1, h2, h3⟩
    · rw [h]
    · rw [h3, ← h1, h2]
      rfl
  · rfl
theorem data_sh {s s' : Ss} (h : s'.sh = s.sh) (q : Int) : dataS s' q = dataS s q := by unfold dataS shN; rw [h]
theorem data_right (s : Ss) (p r : Nat) (q : Int) : dataS (rightS s p r) q = dataS s q := by
  unfold dataS
  have hl : (rightS s p r).sh.length = s.sh.length := put_len _ _ _
  rw [hl]
  have h : shN (rightS s p r) q.toNat = _ := shN_put s p q.toNat ⟨r, (shN s p).has, (shN s p).b⟩
  split
  · rename_i hq
    by_cases e : p = q.toNat ∧ p < s.sh.length
    · rw [if_pos e] at h
      rw [h, ← e.1]
    · rw [if_neg e] at h
      rw [h]
  · rfl
section
variable {s : Ss} {n p r : Nat}
theorem Fi.frame (h : Fi s n) (hp : p < n) : (frameS s p).2 = 0 ∧ Fi (frameS s p).1 n ∧ (shN (frameS s p).1 p).has = true := by
  have hl := h.len
  have hp' : p < s.sh.length := by omega
  have hw := h.wf.frame (p := p)
  have hs := frame_same (s := s) (p := p)
  cases hh : (shN s p).has with
  | true =>
    have e : frameS s p = (s, 0) := by unfold frameS; rw [if_pos hh]
    rw [e]
    exact ⟨rfl, h, hh⟩
  | false =>
    have hc := count_lt hp' hh
    have hf := h.free
    have hne : s.free ≠ 0 := by omega
    have hcn := count_frame hp' hh hne
    have h0 : (frameS s p).2 = 0 := by unfold frameS; rw [if_neg (by rw [hh]; decide), if_neg hne]
    have hfr : (frameS s p).1.free = s.free - 1 := by unfold frameS; rw [if_neg (by rw [hh]; decide), if_neg hne]
    refine ⟨h0, ⟨hw, by rw [hs.2.1]; exact hl, h.n6, by omega, ?_⟩, (frame_yes hp' h0).1⟩
    rw [hcn, hfr, hs.1, hs.2.2.2.2.2.2, hf]
    omega
theorem Fi.room (h : Fi s n) (hn : 0 < n) : (roomS s 0).2 = 0 ∧ Fi (roomS s 0).1 n := by
  have hf := h.free
  have htl := h.wf.tabL
  have hl := h.len
  have h6 := h.n6
  have h1 : (leadS s).2 = 0 ∧ Fi (leadS s).1 n := by
    have hw := h.wf.leads
    cases hd : s.lead with
    | true =>
      have e : leadS s = (s, 0) := by unfold leadS; rw [if_pos hd]
      rw [e]; exact ⟨rfl, h⟩
    | false =>
      rw [hd] at hf
      have hne : s.free ≠ 0 := by simp at hf; omega
      have e : leadS s = ({ s with free := s.free - 1, lead := true }, 0) := by unfold leadS; rw [if_neg (by rw [hd]; decide), if_neg hne]
      rw [e] at hw ⊢
      refine ⟨rfl, hw, hl, h6, h.cnt, ?_⟩
      show s.free - 1 = (n - countS s) + 0 + (if s.tabs.getD 0 false = true then 0 else 1)
      simp only [Bool.false_eq_true, if_false] at hf
      rw [hf]
      generalize (if s.tabs.getD 0 false = true then 0 else 1) = X
      omega
  obtain ⟨k1, k2⟩ := h1
  have h2 : ∀ s' : Ss, Fi s' n → (tabS s' 0).2 = 0 ∧ Fi (tabS s' 0).1 n := fun s' h' => by
    have hw := h'.wf.tabk 0
    have hf := h'.free
    have hl := h'.len
    have htl := h'.wf.tabL
    cases hd : s'.tabs.getD 0 false with
    | true =>
      have e : tabS s' 0 = (s', 0) := by unfold tabS; rw [if_pos hd]
      rw [e]; exact ⟨rfl, h'⟩
    | false =>
      rw [hd] at hf
      have hne : s'.free ≠ 0 := by simp at hf; omega
      have e : tabS s' 0 = ({ s' with free := s'.free - 1, tabs := s'.tabs.set 0 true }, 0) := by unfold tabS; rw [if_neg (by rw [hd]; decide), if_neg hne]
      rw [e] at hw ⊢
      refine ⟨rfl, hw, hl, h'.n6, h'.cnt, ?_⟩
      have : (s'.tabs.set 0 true).getD 0 false = true := by rw [getD_set, if_pos ⟨rfl, by omega⟩]
      show s'.free - 1 = (n - countS s') + _ + (if (s'.tabs.set 0 true).getD 0 false then 0 else 1)
      rw [this]
      simp at hf
      rw [hf]
      simp
  unfold roomS
  rw [if_pos k1]
  exact h2 _ k2
theorem Fi.right (h : Fi s n) (hw : Wf (rightS s p r)) : Fi (rightS s p r) n := ⟨hw, (put_len _ _ _).trans h.len, h.n6, by rw [count_right]; exact h.cnt, by rw [count_right]; exact h.free⟩
/-- a right is set -/
theorem Fi.set (h : Fi s n) (hp : p < n) (hr : r ≤ 2) : (setS s p r).2 = 0 ∧ Fi (setS s p r).1 n ∧ (shN (setS s p r).1 p).rt = r ∧ (∀ q, dataS (setS s p r).1 q = dataS s q) ∧ ∀ q, q ≠ p → (shN (setS s p r).1 q).rt = (shN s q).rt := by
  have hl := h.len
  have h6 := h.n6
  have hset : setS s p r = if ((shN s p).rt : Int) = r then (s, 0) else turnS s p r := by
    unfold setS
    rw [if_pos (by omega), if_pos (by omega), Int.toNat_natCast, Int.toNat_natCast]
  rw [hset]
  by_cases e : ((shN s p).rt : Int) = r
  · rw [if_pos e]
    exact ⟨rfl, h, by show (shN s p).rt = r; omega, fun q => rfl, fun q _ => rfl⟩
  · rw [if_neg e]
    obtain ⟨a1, a2, a3⟩ := h.frame hp
    have hp0 : p / 512 = 0 := by omega
    obtain ⟨b1, b2⟩ := a2.room (by omega)
    have hw := h.wf.turn (p := p) hr (by omega)
    have ht : turnS s p r = (rightS (roomS (frameS s p).1 0).1 p r, 0) := by
      unfold turnS
      rw [hp0, if_pos a1, if_pos b1]
    rw [ht] at hw ⊢
    have hrs := room_same (s := (frameS s p).1) (k := 0)
    have hpl : p < (roomS (frameS s p).1 0).1.sh.length := by rw [hrs.2.1, frame_same.2.1]; omega
    refine ⟨rfl, b2.right hw, ?_, fun q => ?_, fun q hq => ?_⟩
    · show (shN (putN _ p _) p).rt = r
      rw [shN_put, if_pos ⟨rfl, hpl⟩]
    · rw [data_right, data_sh hrs.2.1, data_frame]
    · show (shN (putN _ p _) q).rt = _
      rw [shN_put, if_neg (fun h => hq h.1.symm)]
      have : shN (roomS (frameS s p).1 0).1 q = shN (frameS s p).1 q := by unfold shN; rw [hrs.2.1]
      rw [this]
      rcases shN_frame s p q with h1 | ⟨h1, h2, h3⟩
      · rw [h1]
      · exact absurd h1.symm hq
theorem Fi.new (hn : 1 ≤ n ∧ n ≤ 6) : Fi (newS 1 0 n (needK 1 0 n)) n := by
  have hk : needK 1 0 n = n + 6 := by unfold needK; rw [if_neg (by omega)]; omega
  refine ⟨Wf.new (by decide) (by decide) (by omega), List.length_replicate, hn.2, by rw [count_new]; exact Nat.zero_le _, ?_⟩
  rw [count_new]
  have : (newS 1 0 n (needK 1 0 n)).tabs.getD 0 false = false := by
    show (List.replicate _ false).getD 0 false = false
    rw [List.getD_eq_getElem?_getD, List.getElem?_replicate]; split <;> rfl
  rw [this]
  show needK 1 0 n - 3 - 1 - 0 = (n - 0) + 1 + 1
  omega
theorem data_new (c p k m : Nat) (q : Nat) (hq : q < k) : dataS (newS c p k m) q = zP := by
  unfold dataS
  have : (newS c p k m).sh.length = k := List.length_replicate
  rw [this, if_pos (by omega), Int.toNat_natCast, shN_new]
  rfl
/-- the word at 16 of a page -/
def w16 (s : Ss) (q : Nat) : Int := le (((dataS s q).drop 16).take 8)
theorem w16_zero : le ((zP.drop 16).take 8) = 0 := by kernel_rfl
/-- an access to that word -/
theorem acc16 (h : Fi s n) (hp : p < n) (k : Int) (hk : k = 1 ∨ k = 2) : (accS s (1073741824 + 4096 * p + 16) 8 k).2 = (if doP (mayR (shN s p).rt) k then -1 else cau k 12 13 15) ∧ (doP (mayR (shN s p).rt) k = true → (accS s (1073741824 + 4096 * p + 16) 8 k).1 = w16 s p) := by
  have hl := h.len
  have h6 := h.n6
  have hal : alS (1073741824 + 4096 * p + 16) 8 = true := by
    unfold alS
    rw [decide_eq_true sz8, decide_eq_true (show (1073741824 + 4096 * p + 16) % (8 : Int).toNat = 0 from by show (1073741824 + 4096 * p + 16) % 8 = 0; omega)]
    rfl
  have hv : (1073741824 + 4096 * p + 16) / 4096 = 262144 + p := by omega
  have hm := (sh_fns h.wf (p := p) (by omega)).2.1
  unfold accS
  rw [hal, hv, hm, if_pos rfl]
  cases hd : doP (mayR (shN s p).rt) k with
  | false => exact ⟨rfl, fun h => by cases h⟩
  | true =>
    refine ⟨rfl, fun _ => ?_⟩
    have hrt : (shN s p).rt ≠ 0 := fun e => by rw [e] at hd; rcases hk with rfl | rfl <;> cases hd
    have hh := ((h.wf.sh p (by omega)).2.2 hrt).1
    have hat : atP s (1073741824 + 4096 * p + 16) = (shN s p).b.drop 16 := by
      unfold atP
      rw [hv, if_neg (by unfold isC; have := h.wf.nc; omega), if_neg (by unfold isO; have := h.wf.np; omega), if_pos (by unfold isH; omega), Nat.add_sub_cancel_left, show (1073741824 + 4096 * p + 16) % 4096 = 16 from by omega]
    show le ((atP s (1073741824 + 4096 * p + 16)).take (8 : Int).toNat) = _
    rw [hat]
    unfold w16 dataS
    rw [if_pos (by omega), Int.toNat_natCast, if_pos hh]
    rfl
/-- a store to it -/
theorem stor16 (h : Fi s n) (hp : p < n) (x : Int) (h0 : 0 ≤ x) (h1 : x ≤ 18446744073709551615) : Fi (storS s (1073741824 + 4096 * p + 16) 8 x) n ∧ (∀ q, (shN (storS s (1073741824 + 4096 * p + 16) 8 x) q).rt = (shN s q).rt) ∧
    (∀ q, q < n → w16 (storS s (1073741824 + 4096 * p + 16) 8 x) q = if (shN s p).rt = 2 ∧ q = p then x else w16 s q) := by
  have hl := h.len
  have h6 := h.n6
  have hal : alS (1073741824 + 4096 * p + 16) 8 = true := by
    unfold alS
    rw [decide_eq_true sz8, decide_eq_true (show (1073741824 + 4096 * p + 16) % (8 : Int).toNat = 0 from by show (1073741824 + 4096 * p + 16) % 8 = 0; omega)]
    rfl
  have hv : (1073741824 + 4096 * p + 16) / 4096 = 262144 + p := by omega
  have hm := (sh_fns h.wf (p := p) (by omega)).2.1
  have hw := h.wf.stor (1073741824 + 4096 * p + 16) 8 x
  by_cases h2 : (shN s p).rt = 2
  · have hst : storS s (1073741824 + 4096 * p + 16) 8 x = laidS s p (lay (shN s p).b 16 (byt x 8)) := by
      unfold storS
      rw [hal, hv, hm, h2]
      rw [if_pos (by rfl), if_neg (by unfold isO; have := h.wf.np; omega), Nat.add_sub_cancel_left, show (1073741824 + 4096 * p + 16) % 4096 = 16 from by omega]
      rfl
    rw [hst] at hw ⊢
    obtain ⟨b1, b2⟩ := (h.wf.sh p (by omega)).2.1 (((h.wf.sh p (by omega)).2.2 (by omega)).1)
    have hh := ((h.wf.sh p (by omega)).2.2 (by omega)).1
    have hcn : countS (laidS s p (lay (shN s p).b 16 (byt x 8))) = countS s := count_put rfl
    refine ⟨⟨hw, (put_len _ _ _).trans hl, h6, by rw [hcn]; exact h.cnt, by rw [hcn]; exact h.free⟩, fun q => ?_, fun q hq => ?_⟩
    · show (shN (putN s p _) q).rt = _
      rw [shN_put]
      split
      · rename_i e; rw [e.1]
      · rfl
    · unfold w16 dataS
      have hlen : (laidS s p (lay (shN s p).b 16 (byt x 8))).sh.length = s.sh.length := put_len _ _ _
      have hqq : 0 ≤ (q : Int) ∧ (q : Int) < (s.sh.length : Int) := by omega
      have hx : shN (laidS s p (lay (shN s p).b 16 (byt x 8))) q = if p = q ∧ p < s.sh.length then ⟨(shN s p).rt, (shN s p).has, lay (shN s p).b 16 (byt x 8)⟩ else shN s q := shN_put _ _ _ _
      simp only [hlen, if_pos hqq, Int.toNat_natCast]
      rw [hx]
      by_cases e : p = q
      · subst e
        have hc : p = p ∧ p < s.sh.length := ⟨rfl, by omega⟩
        rw [if_pos hc, if_pos (⟨h2, rfl⟩ : (shN s p).rt = 2 ∧ p = p)]
        show le (((if (shN s p).has = true then lay (shN s p).b 16 (byt x 8) else zP).drop 16).take 8) = x
        rw [if_pos hh]
        have : ((lay (shN s p).b 16 (byt x 8)).drop 16).take 8 = byt x 8 := by
          unfold lay
          have e1 : ((shN s p).b.take 16).length = 16 := by rw [List.length_take, b1]; rfl
          rw [List.append_assoc, List.drop_left' e1, List.take_left' (byt_len 8 x)]
        rw [this, le_byt]
        exact Int.emod_eq_of_lt h0 (by show x < 18446744073709551616; omega)
      · have hc : ¬ (p = q ∧ p < s.sh.length) := fun h => e h.1
        have hc2 : ¬ ((shN s p).rt = 2 ∧ q = p) := fun h => e h.2.symm
        rw [if_neg hc, if_neg hc2]
  · have hd : doP (mayR (shN s p).rt) 2 = false := by
      have := (h.wf.sh p (by omega)).1
      rcases (by omega : (shN s p).rt = 0 ∨ (shN s p).rt = 1) with e | e <;> rw [e] <;> rfl
    have hst : storS s (1073741824 + 4096 * p + 16) 8 x = s := by
      unfold storS
      rw [hal, hv, hm, hd]
      rfl
    rw [hst]
    exact ⟨h, fun q => rfl, fun q hq => by rw [if_neg (fun e => h2 e.1)]⟩
end
end Go.Proofs.YtgnjbjbgfhjakaaGreat

namespace Go.Proofs.YtgnjbjbgfhjakaaGreat
open Go.RowKit
set_option linter.unusedVariables false
set_option linter.unusedSimpArgs false
attribute [local go_sem] setCell_drewN alloc_drewN

def s0F : Ss := newS 1 1 3 10
def s1F : Ss := (setS s0F 2 2).1
def s2F : Ss := storS s1F 1073750024 8 7
def s3F : Ss := (setS s2F 2 1).1
def s4F : Ss := storS s3F 1073750024 8 8
theorem f0F : newE 1 1 3 10 4 2 = 0 := by kernel_rfl
theorem f1F : (setS s0F 2 2).2 = 0 := by kernel_rfl
theorem f2F : (accS s1F (1073750024 : Nat) 8 2).2 = -1 := by kernel_rfl
theorem f3F : (setS s2F 2 1).2 = 0 := by kernel_rfl
theorem f4F : (accS s3F (1073750024 : Nat) 8 2).2 = 15 := by kernel_rfl
theorem f5F : accS s4F (1073750024 : Nat) 8 1 = (7, -1) := by kernel_rfl
theorem f6F : whichS s4F (1073754111 : Nat) = (2, true) := by kernel_rfl
theorem f7F : (accS s4F (1073745920 : Nat) 8 1).2 = 13 := by kernel_rfl
theorem f8F : (dataS s4F 2).getD 8 0 = 7 ∧ (dataS s4F 2).length = 4096 := ⟨by kernel_rfl, by kernel_rfl⟩
theorem f9F : (setS s4F 3 1).2 = 51 := by kernel_rfl
set_option maxHeartbeats 16000000 in
theorem first14_any (w : World) : Calls Tryz.prog 5 #[] w fun r w' => r = .returned (.bool true) ∧ Below w.heap.size w w' := by
  have h1 : ∀ w, Calls Tryz.prog 8 #[.agg #[.int .i64 1, .int .i64 1, .int .i64 3]] w fun r w' => r = .returned (.int .i64 10) ∧ Below w.heap.size w w' := fun w => sneed_yes 1 1 3 w rfl
  have h2 := fun w => os_new 1 1 3 10 4 2 w f0F
  have H1 := Lib.hid h1; have H2 := Lib.hid h2
  clear h1 h2
  go_enter Tryz.func5, Tryz.ntmps5
  go_upto_region 2 with (fail)
  have nb0 := Blk.new w [.int .i64 1, .int .i64 1, .int .i64 3] 23
  have nls : Below w.heap.size w w := (Below.refl w.heap.size w)
  have nl0 := nls.alloc nls.size (.cells #[.int .i64 1, .int .i64 1, .int .i64 3] 23)
  have nl : Below w.heap.size w (w.alloc (.cells #[.int .i64 1, .int .i64 1, .int .i64 3] 23)) := nl0; clear nls nl0
  obtain ⟨B1, hB0⟩ : ∃ B, B = w.heap.size := ⟨_, rfl⟩
  obtain ⟨W1, hW⟩ : ∃ W, W = (w.alloc (.cells #[.int .i64 1, .int .i64 1, .int .i64 3] 23)) := ⟨_, rfl⟩
  rw [← hW] at nl nb0
  rw [← hB0] at nb0
  rw [← hW]
  try rw [← hB0]
  have K1_0 := Lib.hid nb0
  have G1 : Hid (w.heap.size ≤ B1) := Lib.hid (by have := (Nat.le_refl w.heap.size); omega)
  have L1 := Lib.hid nl
  clear nl hW nb0 hB0
  refine wp_region_held_drew (S := fun w' => Blk w' B1 [.int .i64 1, .int .i64 1, .int .i64 3] 23) (by kernel_rfl) K1_0.out (fun hHeld => ?_)
  simp only [List.size_toArray, List.length_cons, List.length_nil, Nat.reduceAdd]
  rw [show Array.replicate 9 false = [false, false, false, false, false, false, false, false, false].toArray from rfl]
  refine wpAnyH_take (i := 0) (v := _) rfl (by kernel_rfl) (by kernel_rfl) (by kernel_rfl) (fun _ _ _ h => h) (Or.inl ⟨by rfl, fun w hSw => yield_shape _ _ _ rfl rfl hSw⟩) (by assumption) ?_
  try simp only [Act.put, List.setIfInBounds_toArray, List.set_cons_zero, List.set_cons_succ, List.getElem_toArray, List.getElem_cons_succ, List.getElem_cons_zero]
  refine wpAnyH_take (i := 1) (v := _) rfl (by kernel_rfl) (by kernel_rfl) (by kernel_rfl) (fun _ _ _ h => h) (Or.inl ⟨by rfl, fun w hSw => yield_shape _ _ _ rfl rfl hSw⟩) (by assumption) ?_
  try simp only [Act.put, List.setIfInBounds_toArray, List.set_cons_zero, List.set_cons_succ, List.getElem_toArray, List.getElem_cons_succ, List.getElem_cons_zero]
  refine wpAnyH_ready (rs := [2]) (by kernel_rfl) (by simp) ?_
  refine AllReadyH.cons rfl (fun K hK => ?_) AllReadyH.nil
  go_simp
  refine (H1.out _).mono ?_
  rintro e w2 ⟨rfl, hb⟩
  have L2 := Lib.hid (L1.out.drew.trans (hb.mono L1.out.size))
  have hk2 := (Blk.drewN K1_0.out 1).below hb K1_0.out.lt
  have K2 := Lib.hid hk2
  refine hK.out _ _ K2.out (fun hS2 => ?_)
  clear hK K hb hk2 hHeld
  refine wpAnyH_ready (rs := [3]) (by kernel_rfl) (by simp) ?_
  refine AllReadyH.cons rfl (fun K hK => ?_) AllReadyH.nil
  go_simp
  refine (H2.out w2).mono ?_
  rintro e w3 ⟨xp, up, rfl, ho⟩
  have O3 : Hid (OsL 10 w2 w3 (fun _ => False) xp up s0F 321) := Lib.hid ho
  refine hK.out _ _ (K2.out.chg O3.out.chg0 (fun h => h)) (fun hS3 => ?_)
  clear hK K ho
  refine wpAnyH_take (i := 4) (v := ?_) rfl (by kernel_rfl) (by kernel_rfl) (by kernel_rfl) (fun _ _ _ h => h) (Or.inl ⟨by rfl, ?yldq⟩) (by assumption) ?_
  case yldq => (intro w hSw; (try dsimp only at hSw); go_simp; try with_reducible rfl)
  try simp only [Act.put, List.setIfInBounds_toArray, List.set_cons_zero, List.set_cons_succ, List.getElem_toArray, List.getElem_cons_succ, List.getElem_cons_zero]
  refine wpAnyH_take (i := 5) (v := ?_) rfl (by kernel_rfl) (by kernel_rfl) (by kernel_rfl) (fun _ _ _ h => h) (Or.inl ⟨by rfl, ?yldq⟩) (by assumption) ?_
  case yldq => (intro w hSw; (try dsimp only at hSw); go_simp; try with_reducible rfl)
  try simp only [Act.put, List.setIfInBounds_toArray, List.set_cons_zero, List.set_cons_succ, List.getElem_toArray, List.getElem_cons_succ, List.getElem_cons_zero]
  refine wpAnyH_take (i := 6) (v := ?_) rfl (by kernel_rfl) (by kernel_rfl) (by kernel_rfl) (fun _ _ _ h => h) (Or.inl ⟨by rfl, ?yldq⟩) (by assumption) ?_
  case yldq => (intro w hSw; (try dsimp only at hSw); go_simp; try with_reducible rfl)
  try simp only [Act.put, List.setIfInBounds_toArray, List.set_cons_zero, List.set_cons_succ, List.getElem_toArray, List.getElem_cons_succ, List.getElem_cons_zero]
  refine wpAnyH_take (i := 7) (v := ?_) rfl (by kernel_rfl) (by kernel_rfl) (by kernel_rfl) (fun _ _ _ h => h) (Or.inl ⟨by rfl, ?yldq⟩) (by assumption) ?_
  case yldq => (intro w hSw; (try dsimp only at hSw); go_simp; try with_reducible rfl)
  try simp only [Act.put, List.setIfInBounds_toArray, List.set_cons_zero, List.set_cons_succ, List.getElem_toArray, List.getElem_cons_succ, List.getElem_cons_zero]
  refine wpAnyH_take (i := 8) (v := ?_) rfl (by kernel_rfl) (by kernel_rfl) (by kernel_rfl) (fun _ _ _ h => h) (Or.inl ⟨by rfl, ?yldq⟩) (by assumption) ?_
  case yldq => (intro w hSw; (try dsimp only at hSw); go_simp; try with_reducible rfl)
  try simp only [Act.put, List.setIfInBounds_toArray, List.set_cons_zero, List.set_cons_succ, List.getElem_toArray, List.getElem_cons_succ, List.getElem_cons_zero]
  refine wpAnyH_done (by kernel_rfl) ?_ _
  clear hS3 hS2
  have h3 := os_set O3.out 2 2 (by decide)
  rw [f1F] at h3
  have H3 := Lib.hid h3; clear h3
  go_wp2_with fail
  refine H3.out.mono ?_
  rintro e w4 ⟨rfl, ho, hk⟩
  have O4 : Hid (OsL 10 w2 w4 (fun _ => False) xp up s1F 326) := Lib.hid ho
  clear ho hk
  have hu := os_unit O4.out
  have HU := Lib.hid hu; clear hu
  have h4 := os_store O4.out (1073750024 : Nat) 8 0 7 (by decide) (by decide) (by decide) (by decide) (by decide)
  rw [f2F] at h4
  have H4 := Lib.hid h4; clear h4
  go_wp2_with fail
  refine HU.out.mono ?_
  rintro e wx ⟨rfl, rfl⟩
  go_wp2_with fail
  refine H4.out.mono ?_
  rintro e w5 ⟨rfl, ho, hk⟩
  have O5 : Hid (OsL 10 w2 w5 (fun _ => False) xp up s2F 327) := Lib.hid ho
  clear ho hk
  have h5 := os_set O5.out 2 1 (by decide)
  rw [f3F] at h5
  have H5 := Lib.hid h5; clear h5
  go_wp2_with fail
  refine H5.out.mono ?_
  rintro e w6 ⟨rfl, ho, hk⟩
  have O6 : Hid (OsL 10 w2 w6 (fun _ => False) xp up s3F 332) := Lib.hid ho
  clear ho hk
  have hu := os_unit O6.out
  have HU6 := Lib.hid hu; clear hu
  have h6 := os_store O6.out (1073750024 : Nat) 8 0 8 (by decide) (by decide) (by decide) (by decide) (by decide)
  rw [f4F] at h6
  have H6 := Lib.hid h6; clear h6
  go_wp2_with fail
  refine HU6.out.mono ?_
  rintro e wx ⟨rfl, rfl⟩
  go_wp2_with fail
  refine H6.out.mono ?_
  rintro e w7 ⟨rfl, ho, hk⟩
  have O7 : Hid (OsL 10 w2 w7 (fun _ => False) xp up s4F 333) := Lib.hid ho
  clear ho hk
  have hu := os_unit O7.out
  have HU7 := Lib.hid hu; clear hu
  have h7 := os_load O7.out (1073750024 : Nat) 8 0 (by decide) (by decide)
  rw [f5F] at h7
  have H7 := Lib.hid h7; clear h7
  go_wp2_with fail
  refine HU7.out.mono ?_
  rintro e wx ⟨rfl, rfl⟩
  go_wp2_with fail
  refine H7.out.mono ?_
  rintro e w8 ⟨rfl, ho, hk⟩
  have O8 : Hid (OsL 10 w2 w8 (fun _ => False) xp up s4F 333) := Lib.hid ho
  clear ho hk
  have h8 := os_which O8.out (1073754111 : Nat) (by decide)
  rw [f6F] at h8
  have H8 := Lib.hid h8; clear h8
  go_wp2_with fail
  refine H8.out.mono ?_
  rintro e w9 ⟨rfl, hb⟩
  have O9 := Lib.hid (O8.out.below hb)
  clear hb
  have hu := os_unit O9.out
  have HU9 := Lib.hid hu; clear hu
  have h9 := os_load O9.out (1073745920 : Nat) 8 0 (by decide) (by decide)
  rw [f7F] at h9
  have H9 := Lib.hid h9; clear h9
  go_wp2_with fail
  refine HU9.out.mono ?_
  rintro e wx ⟨rfl, rfl⟩
  go_wp2_with fail
  refine H9.out.mono ?_
  rintro e w10 ⟨rfl, ho, hk⟩
  have O10 := Lib.hid ho
  clear ho hk
  have h10 := os_data O10.out 2
  rw [f8F.2] at h10
  have H10 := Lib.hid h10; clear h10
  go_wp2_with fail
  refine H10.out.mono ?_
  rintro e w11 ⟨⟨A, cap, rfl, hrd⟩, hb⟩
  have O11 := Lib.hid (O10.out.below hb)
  obtain ⟨b, off, rfl, hc⟩ := hrd.2.2 (by rw [f8F.2]; decide)
  have hc8 := hc 8 (by rw [f8F.2]; decide)
  rw [f8F.1] at hc8
  clear hb hrd hc
  have h11 := os_set O11.out 3 1 (by decide)
  rw [f9F] at h11
  have H11 := Lib.hid h11; clear h11
  go_wp2_with fail
  refine H11.out.mono ?_
  rintro e w12 ⟨rfl, ho, hk⟩
  have O12 := Lib.hid ho
  clear ho hk hc8
  go_wp2
  go_ret
  exact ⟨rfl, L2.out.trans (O12.out.chg0.none.mono L2.out.size)⟩
end Go.Proofs.YtgnjbjbgfhjakaaGreat
