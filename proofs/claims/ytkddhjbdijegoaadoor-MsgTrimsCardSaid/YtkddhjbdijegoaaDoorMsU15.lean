/-
  What Text of package msg and of package runrigref15 answer: contracts over the translation. Each says its own conditions.
-/
import Derived.Test.YtkddhjbdijegoaaDoorMsT15
namespace Go.Proofs.YtkddhjbdijegoaaDoor
open Go.RowKit
set_option linter.unusedVariables false
set_option linter.unusedSimpArgs false
attribute [local go_sem] setCell_drewN alloc_drewN

theorem load_k15 {w : World} {b k : Nat} {x : Int} (h : w.cell? ⟨b, k, none⟩ = some (.int .i64 x)) : (Instr.loadAt 22 (.pointer (some ⟨b, k, none⟩))).run Tryd.prog w = .ok (.int .i64 x) w := by
  go_simp
theorem yield_k15 {w : World} {b k : Nat} {x : Int} (a : Act) (o : Oper) (y : Operand) (ho : o.op = .load 22 y) (hx : a.eval y = .pointer (some ⟨b, k, none⟩)) (h : w.cell? ⟨b, k, none⟩ = some (.int .i64 x)) :
    (execOp a.eval o).run Tryd.prog w = .ok (.value (.int .i64 x)) w := by
  have e := load_k15 h
  obtain ⟨op, _, _, _, _, _⟩ := o
  dsimp only at ho
  subst ho
  unfold execOp
  simp only [hx]
  simp [e]
theorem load_i15 {w : World} {b k : Nat} {x : Int} (h : w.cell? ⟨b, k, none⟩ = some (.int .i64 x)) : (Instr.loadAt 3 (.pointer (some ⟨b, k, none⟩))).run Tryd.prog w = .ok (.int .i64 x) w := by
  go_simp
theorem yield_i15 {w : World} {b k : Nat} {x : Int} (a : Act) (o : Oper) (y : Operand) (ho : o.op = .load 3 y) (hx : a.eval y = .pointer (some ⟨b, k, none⟩)) (h : w.cell? ⟨b, k, none⟩ = some (.int .i64 x)) :
    (execOp a.eval o).run Tryd.prog w = .ok (.value (.int .i64 x)) w := by
  have e := load_i15 h
  obtain ⟨op, _, _, _, _, _⟩ := o
  dsimp only at ho
  subst ho
  unfold execOp
  simp only [hx]
  simp [e]
/-- the kinds' names read as the program's text lays them -/
def Nm (w : World) : Prop := ∀ k : Nat, 1 ≤ k → k ≤ 6 → w.cell? ⟨1, k, none⟩ = some (.string (bs (nam15 k)))
theorem Nm.below {w w' : World} (h : Nm w) (hb : Below w.heap.size w w') : Nm w' := fun k h1 h6 => (hb.cell (p := ⟨1, k, none⟩) (cell_lt (h k h1 h6))).trans (h k h1 h6)
theorem nam15_no (k : Int) (h : ¬ (1 ≤ k ∧ k ≤ 6)) : nam15 k = [63] := by
  unfold nam15
  rw [if_neg (by omega), if_neg (by omega), if_neg (by omega), if_neg (by omega), if_neg (by omega), if_neg (by omega)]
theorem nam15_len (k : Int) : (nam15 k).length ≤ 6 := by
  unfold nam15
  split
  · decide
  split
  · decide
  split
  · decide
  split
  · decide
  split
  · decide
  split
  · decide
  · decide
theorem name_any (k : Int) (w : World) (hN : Nm w) : Calls Tryd.prog 25 #[.int .i64 k] w fun e w' => e = .returned (.string (bs (nam15 k))) ∧ Below w.heap.size w w' := by
  by_cases h : 1 ≤ k ∧ k ≤ 6
  · obtain ⟨j, rfl⟩ : ∃ j : Nat, k = j := ⟨k.toNat, by omega⟩
    have hc := hN j (by omega) (by omega)
    have hk := kind_yes (j : Int) w h
    have h7 : (j : Int) < 7 := by omega
    generalize bs (nam15 j) = S at hc ⊢
    have HK := Lib.hid hk
    clear hk hN
    go_enter Tryd.func25, Tryd.ntmps25
    go_wp2_with fail
    refine HK.out.mono ?_
    rintro e w' ⟨rfl, rfl⟩
    go_wp2
    go_ret
    exact ⟨rfl, Below.refl _ _⟩
  · have hk := kind_no k w h
    have HK := Lib.hid hk
    rw [nam15_no k h]
    clear hk hN
    go_enter Tryd.func25, Tryd.ntmps25
    go_wp2_with fail
    refine HK.out.mono ?_
    rintro e w' ⟨rfl, rfl⟩
    go_wp2
    go_ret
    exact ⟨rfl, Below.refl _ _⟩
theorem rnum_any (n : Int) (w : World) (h0 : -9223372036854775808 ≤ n) (h1 : n ≤ 9223372036854775807) : Calls Tryd.prog 28 #[.int .i64 n] w fun e w' => e = .returned (.string (bs (Lib.itoa n))) ∧ Below w.heap.size w w' := by
  by_cases hn : n < 0
  · obtain ⟨m, hm⟩ : ∃ m : Nat, -(n + 1) = m := ⟨(-(n + 1)).toNat, by omega⟩
    have hd := fun w => rdig_any m 1 (by omega) (by omega) w
    have e1 : Lib.itoa n = 45 :: Lib.decDigits (m + 1) := by unfold Lib.itoa; rw [if_pos hn, show n.natAbs = m + 1 from by omega]
    have hl := dd_len (m + 1) (by omega)
    have e2 : bs (Lib.itoa n) = bs [45] ++ bs (Lib.decDigits (m + 1)) := by rw [e1, bs_app]; rfl
    have hz := bs_size (Lib.decDigits (m + 1))
    rw [e2]
    have w1 : IntKind.i64.wrap (n + 1) = n + 1 := by simp [IntKind.wrap, IntKind.signed, IntKind.bits]; omega
    have w2 : IntKind.i64.wrap (-(n + 1)) = (m : Int) := by rw [hm]; simp [IntKind.wrap, IntKind.signed, IntKind.bits]; omega
    generalize bs (Lib.decDigits (m + 1)) = S at hd hz
    have hz2 : S.size ≤ 20 := by omega
    have HD := Lib.hid hd
    clear hd e1 e2 hl hz hm
    go_enter Tryd.func28, Tryd.ntmps28
    go_wp2_with fail
    refine (HD.out _).mono ?_
    rintro e w' ⟨rfl, hb⟩
    have HB := Lib.hid hb; clear hb
    go_wp2
    go_ret
    exact ⟨rfl, HB.out⟩
  · obtain ⟨m, rfl⟩ : ∃ m : Nat, n = m := ⟨n.toNat, by omega⟩
    have hd := fun w => rdig_any m 0 (by omega) (by omega) w
    rw [Nat.add_zero] at hd
    rw [Lib.itoa_nonneg]
    have HD := Lib.hid hd
    clear hd
    go_enter Tryd.func28, Tryd.ntmps28
    go_wp2_with fail
    refine (HD.out _).mono ?_
    rintro e w' ⟨rfl, hb⟩
    have HB := Lib.hid hb; clear hb
    go_wp2
    go_ret
    exact ⟨rfl, HB.out⟩
theorem txt_len (s : Nat) : (txt s).length ≤ 48 := by
  unfold txt
  split
  · decide
  · have h1 := join_len (upto s 16) (fun i hi => (mem_upto.1 hi).1)
    have h2 := upto_len s 16
    omega
def tx0 (m : Mg) : List UInt8 := nam15 m.k ++ [32, 112, 97, 103, 101, 32] ++ Lib.itoa m.p ++ [32, 110, 111, 100, 101, 32] ++ Lib.itoa m.n
theorem add15 (a b : ByteArray) (h : a.size + b.size ≤ 9223372036854775807) : ∀ w0 : World, (Op.stringOp .add a b).run Tryd.prog w0 = .ok (.string (a ++ b)) w0 := fun w0 => run_string_add_sum _ _ _ h
set_option maxHeartbeats 8000000 in
theorem text_any15 (k p n h : Int) (s : Nat) (A : Option Addr) (dl cap : Nat) (d : List Int) (w : World) (hs : s < 65536) (ht : MgT ⟨k, p, n, h, s, d⟩) (hl : d.length = dl) (hd : dl ≤ 9223372036854775807) (hP : Pw w) (hN : Nm w) (hT : Tz w) : Calls Tryd.prog 16 #[.agg #[.int .i64 k, .int .i64 p, .int .i64 n, .int .i64 h, .int .u16 (s : Int), .slice A dl cap]] w fun e w' => e = .returned (.string (bs (txtM ⟨k, p, n, h, s, d⟩))) ∧ Below w.heap.size w w' := by
  have cP : ∀ w2, Below w.heap.size w w2 → Calls Tryd.prog 26 #[.int .i64 p] w2 fun e w' => e = .returned (.string (bs (Lib.itoa p))) ∧ Below w2.heap.size w2 w' := fun w2 h2 => itoa_any (p) w2 (ht.p).1 (ht.p).2 (hP.below h2)
  have cQ : ∀ w2, Below w.heap.size w w2 → Calls Tryd.prog 26 #[.int .i64 n] w2 fun e w' => e = .returned (.string (bs (Lib.itoa n))) ∧ Below w2.heap.size w2 w' := fun w2 h2 => itoa_any (n) w2 (ht.n).1 (ht.n).2 (hP.below h2)
  have cH : ∀ w2, Below w.heap.size w w2 → Calls Tryd.prog 26 #[.int .i64 h] w2 fun e w' => e = .returned (.string (bs (Lib.itoa h))) ∧ Below w2.heap.size w2 w' := fun w2 h2 => itoa_any (h) w2 (ht.h).1 (ht.h).2 (hP.below h2)
  have cD : ∀ w2, Below w.heap.size w w2 → Calls Tryd.prog 26 #[.int .i64 (dl : Int)] w2 fun e w' => e = .returned (.string (bs (Lib.itoa (dl : Int)))) ∧ Below w2.heap.size w2 w' := fun w2 h2 => itoa_any ((dl : Int)) w2 ((⟨by omega, by omega⟩ : -9223372036854775808 ≤ (dl : Int) ∧ (dl : Int) ≤ 9223372036854775807)).1 ((⟨by omega, by omega⟩ : -9223372036854775808 ≤ (dl : Int) ∧ (dl : Int) ≤ 9223372036854775807)).2 (hP.below h2)
  have cN : ∀ w2, Below w.heap.size w w2 → Calls Tryd.prog 25 #[.int .i64 k] w2 fun e w' => e = .returned (.string (bs (nam15 k))) ∧ Below w2.heap.size w2 w' := fun w2 h2 => name_any k w2 (hN.below h2)
  have cS : ∀ w2, Below w.heap.size w w2 → Calls Tryd.prog 27 #[.int .u16 (s : Int)] w2 fun e w' => e = .returned (.string (bs (txt s))) ∧ Below w2.heap.size w2 w' := fun w2 h2 => text_any s w2 hs (hT.below h2)
  have zN : (bs (nam15 k)).size ≤ 6 := by rw [bs_size]; exact nam15_len k
  have zP : (bs (Lib.itoa p)).size ≤ 21 := by rw [bs_size]; exact Lib.itoa_length_le p ht.p.1 ht.p.2
  have zQ : (bs (Lib.itoa n)).size ≤ 21 := by rw [bs_size]; exact Lib.itoa_length_le n ht.n.1 ht.n.2
  have zH : (bs (Lib.itoa h)).size ≤ 21 := by rw [bs_size]; exact Lib.itoa_length_le h ht.h.1 ht.h.2
  have zD : (bs (Lib.itoa (dl : Int))).size ≤ 21 := by rw [bs_size]; exact Lib.itoa_length_le _ (by omega) (by omega)
  have zS : (bs (txt s)).size ≤ 48 := by rw [bs_size]; exact txt_len s
  obtain ⟨OUT, hO⟩ : ∃ OUT, OUT = bs (txtM ⟨k, p, n, h, s, d⟩) := ⟨_, rfl⟩
  rw [← hO]
  have hO2 : OUT = bs (tx0 ⟨k, p, n, h, s, d⟩) ++ bs (if h = 0 then [] else [32, 104, 111, 112, 115, 32] ++ Lib.itoa h) ++ bs (if k = 4 then [32, 115, 101, 116, 32] ++ txt s else []) ++ bs (if dl = 0 then [] else [32, 98, 121, 116, 101, 115, 32] ++ Lib.itoa (dl : Int)) := by
    rw [hO, bs_app, bs_app, bs_app]
    unfold txtM tx0
    dsimp only
    rw [hl, show (s : Int).toNat = s from rfl]
  have hX : bs (tx0 ⟨k, p, n, h, s, d⟩) = bs (nam15 k) ++ bs [32, 112, 97, 103, 101, 32] ++ bs (Lib.itoa p) ++ bs [32, 110, 111, 100, 101, 32] ++ bs (Lib.itoa n) := by
    simp only [bs_app]
    unfold tx0
    simp only [List.append_assoc]
  obtain ⟨X, hXX⟩ : ∃ X, X = bs (tx0 ⟨k, p, n, h, s, d⟩) := ⟨_, rfl⟩
  rw [← hXX] at hX hO2
  have zX : X.size ≤ 60 := by
    rw [hX]; simp only [ByteArray.size_append]
    have e1 : (bs [32, 112, 97, 103, 101, 32]).size = 6 := rfl
    have e2 : (bs [32, 110, 111, 100, 101, 32]).size = 6 := rfl
    omega
  have rH : bs ([32, 104, 111, 112, 115, 32] ++ Lib.itoa h) = ⟨#[32, 104, 111, 112, 115, 32]⟩ ++ bs (Lib.itoa h) := (bs_app _ _).symm
  have rS : bs ([32, 115, 101, 116, 32] ++ txt s) = ⟨#[32, 115, 101, 116, 32]⟩ ++ bs (txt s) := (bs_app _ _).symm
  have rD : bs ([32, 98, 121, 116, 101, 115, 32] ++ Lib.itoa (dl : Int)) = ⟨#[32, 98, 121, 116, 101, 115, 32]⟩ ++ bs (Lib.itoa (dl : Int)) := (bs_app _ _).symm
  have r0 : ∀ Y : ByteArray, Y ++ bs [] = Y := fun Y => by
    have e : ∀ s t : ByteArray, s.data.toList = t.data.toList → s = t := fun s t h => by
      cases s; cases t; simp at h; subst h; rfl
    apply e; simp [bs]
  replace hX : X = bs (nam15 k) ++ ⟨#[32, 112, 97, 103, 101, 32]⟩ ++ bs (Lib.itoa p) ++ ⟨#[32, 110, 111, 100, 101, 32]⟩ ++ bs (Lib.itoa n) := hX
  have HX := Lib.hid hX; have HO := Lib.hid hO2; have RH := Lib.hid rH; have RS := Lib.hid rS; have RD := Lib.hid rD; have R0 := Lib.hid r0
  clear hX hXX hO hO2 rH rS rD r0 hP hN hT ht hl
  generalize bs (Lib.itoa p) = Pb at *
  generalize bs (Lib.itoa n) = Qb at *
  generalize bs (Lib.itoa h) = Hb at *
  generalize bs (Lib.itoa (dl : Int)) = Db at *
  generalize bs (txt s) = Sb at *
  generalize bs (nam15 k) = Nb at *
  have CP := Lib.hid cP; clear cP
  have CQ := Lib.hid cQ; clear cQ
  have CH := Lib.hid cH; clear cH
  have CD := Lib.hid cD; clear cD
  have CS := Lib.hid cS; clear cS
  have CN := Lib.hid cN; clear cN
  go_enter Tryd.func16, Tryd.ntmps16
  go_upto_region 1 with (fail)
  have nb0 : Blk (w.alloc (.cells #[.int .i64 k, .int .i64 p, .int .i64 n, .int .i64 h, .int .u16 (s : Int), .slice A dl cap] 26)) (w.heap.size) [.int .i64 k, .int .i64 p, .int .i64 n, .int .i64 h, .int .u16 (s : Int), .slice A dl cap] 26 := Blk.new w [.int .i64 k, .int .i64 p, .int .i64 n, .int .i64 h, .int .u16 (s : Int), .slice A dl cap] 26
  have nls : Below w.heap.size w w := (Below.refl w.heap.size w)
  have nl0 := nls.alloc nls.size (.cells #[.int .i64 k, .int .i64 p, .int .i64 n, .int .i64 h, .int .u16 (s : Int), .slice A dl cap] 26)
  have nl : Below w.heap.size w (w.alloc (.cells #[.int .i64 k, .int .i64 p, .int .i64 n, .int .i64 h, .int .u16 (s : Int), .slice A dl cap] 26)) := nl0; clear nls nl0
  obtain ⟨B1, hB0⟩ : ∃ B, B = w.heap.size := ⟨_, rfl⟩
  obtain ⟨W1, hW⟩ : ∃ W, W = (w.alloc (.cells #[.int .i64 k, .int .i64 p, .int .i64 n, .int .i64 h, .int .u16 (s : Int), .slice A dl cap] 26)) := ⟨_, rfl⟩
  rw [← hW] at nl nb0
  rw [← hB0] at nb0
  rw [← hW]
  try rw [← hB0]
  have K1_0 := Lib.hid nb0
  have G1 : Hid (w.heap.size ≤ B1) := Lib.hid (by have := (Nat.le_refl w.heap.size); omega)
  have L1 := Lib.hid nl
  clear nl hW nb0 hB0
  have f1 := add15 Nb ⟨#[32, 112, 97, 103, 101, 32]⟩ (by have : (ByteArray.size ⟨#[32, 112, 97, 103, 101, 32]⟩) = 6 := rfl; omega)
  have f2 := add15 (Nb ++ ⟨#[32, 112, 97, 103, 101, 32]⟩) Pb (by have : (ByteArray.size ⟨#[32, 112, 97, 103, 101, 32]⟩) = 6 := rfl; rw [ByteArray.size_append]; omega)
  have f3 := add15 (Nb ++ ⟨#[32, 112, 97, 103, 101, 32]⟩ ++ Pb) ⟨#[32, 110, 111, 100, 101, 32]⟩ (by have : (ByteArray.size ⟨#[32, 112, 97, 103, 101, 32]⟩) = 6 := rfl; have : (ByteArray.size ⟨#[32, 110, 111, 100, 101, 32]⟩) = 6 := rfl; rw [ByteArray.size_append, ByteArray.size_append]; omega)
  have f4 := add15 (Nb ++ ⟨#[32, 112, 97, 103, 101, 32]⟩ ++ Pb ++ ⟨#[32, 110, 111, 100, 101, 32]⟩) Qb (by have : (ByteArray.size ⟨#[32, 112, 97, 103, 101, 32]⟩) = 6 := rfl; have : (ByteArray.size ⟨#[32, 110, 111, 100, 101, 32]⟩) = 6 := rfl; rw [ByteArray.size_append, ByteArray.size_append, ByteArray.size_append]; omega)
  refine wp_region_held_drew (S := fun w' => Blk w' B1 [.int .i64 k, .int .i64 p, .int .i64 n, .int .i64 h, .int .u16 (s : Int), .slice A dl cap] 26) (by kernel_rfl) K1_0.out (fun hHeld => ?_)
  simp only [List.size_toArray, List.length_cons, List.length_nil, Nat.reduceAdd]
  rw [show Array.replicate 14 false = [false, false, false, false, false, false, false, false, false, false, false, false, false, false].toArray from rfl]
  refine wpAnyH_take (i := 0) (v := ?_) rfl (by kernel_rfl) (by kernel_rfl) (by kernel_rfl) (fun _ _ _ h => h) (Or.inl ⟨by rfl, ?yldq⟩) (by assumption) ?_
  case yldq => (intro w hSw; (try dsimp only at hSw); go_simp; try with_reducible rfl)
  try simp only [Act.put, List.setIfInBounds_toArray, List.set_cons_zero, List.set_cons_succ, List.getElem_toArray, List.getElem_cons_succ, List.getElem_cons_zero]
  refine wpAnyH_take (i := 1) (v := _) rfl (by kernel_rfl) (by kernel_rfl) (by kernel_rfl) (fun _ _ _ h => h) (Or.inl ⟨by rfl, fun w hSw => yield_k15 _ _ _ rfl rfl (hSw.cell 0)⟩) (by assumption) ?_
  try simp only [Act.put, List.setIfInBounds_toArray, List.set_cons_zero, List.set_cons_succ, List.getElem_toArray, List.getElem_cons_succ, List.getElem_cons_zero]
  refine wpAnyH_take (i := 4) (v := ?_) rfl (by kernel_rfl) (by kernel_rfl) (by kernel_rfl) (fun _ _ _ h => h) (Or.inl ⟨by rfl, ?yldq⟩) (by assumption) ?_
  case yldq => (intro w hSw; (try dsimp only at hSw); go_simp; try with_reducible rfl)
  try simp only [Act.put, List.setIfInBounds_toArray, List.set_cons_zero, List.set_cons_succ, List.getElem_toArray, List.getElem_cons_succ, List.getElem_cons_zero]
  refine wpAnyH_take (i := 5) (v := _) rfl (by kernel_rfl) (by kernel_rfl) (by kernel_rfl) (fun _ _ _ h => h) (Or.inl ⟨by rfl, fun w hSw => yield_i15 _ _ _ rfl rfl (hSw.cell 1)⟩) (by assumption) ?_
  try simp only [Act.put, List.setIfInBounds_toArray, List.set_cons_zero, List.set_cons_succ, List.getElem_toArray, List.getElem_cons_succ, List.getElem_cons_zero]
  refine wpAnyH_take (i := 9) (v := ?_) rfl (by kernel_rfl) (by kernel_rfl) (by kernel_rfl) (fun _ _ _ h => h) (Or.inl ⟨by rfl, ?yldq⟩) (by assumption) ?_
  case yldq => (intro w hSw; (try dsimp only at hSw); go_simp; try with_reducible rfl)
  try simp only [Act.put, List.setIfInBounds_toArray, List.set_cons_zero, List.set_cons_succ, List.getElem_toArray, List.getElem_cons_succ, List.getElem_cons_zero]
  refine wpAnyH_take (i := 10) (v := _) rfl (by kernel_rfl) (by kernel_rfl) (by kernel_rfl) (fun _ _ _ h => h) (Or.inl ⟨by rfl, fun w hSw => yield_i15 _ _ _ rfl rfl (hSw.cell 2)⟩) (by assumption) ?_
  try simp only [Act.put, List.setIfInBounds_toArray, List.set_cons_zero, List.set_cons_succ, List.getElem_toArray, List.getElem_cons_succ, List.getElem_cons_zero]
  refine wpAnyH_ready (rs := [2]) (by kernel_rfl) (by simp) ?_
  refine AllReadyH.cons rfl (fun K hK => ?_) AllReadyH.nil
  go_simp
  refine (CN.out _ (L1.out.drew)).mono ?_
  rintro e w2 ⟨rfl, hb⟩
  have L2 := Lib.hid ((L1.out.drew).trans (hb.mono L1.out.size))
  have K2_0 := Lib.hid ((Blk.drewN K1_0.out 1).below hb K1_0.out.lt)
  clear hb K1_0
  refine hK.out _ _ K2_0.out (fun hS2 => ?_)
  clear hK K
  refine wpAnyH_take (i := 3) (v := ?_) rfl (by kernel_rfl) (by kernel_rfl) (by kernel_rfl) (fun _ _ _ h => h) (Or.inl ⟨by rfl, ?yldq⟩) (by assumption) ?_
  case yldq => (intro w hSw; (try dsimp only at hSw); go_simp; try with_reducible rfl)
  try simp only [Act.put, List.setIfInBounds_toArray, List.set_cons_zero, List.set_cons_succ, List.getElem_toArray, List.getElem_cons_succ, List.getElem_cons_zero]
  refine wpAnyH_ready (rs := [6]) (by kernel_rfl) (by simp) ?_
  refine AllReadyH.cons rfl (fun K hK => ?_) AllReadyH.nil
  go_simp
  refine (CP.out _ L2.out).mono ?_
  rintro e w3 ⟨rfl, hb⟩
  have L3 := Lib.hid (L2.out.trans (hb.mono L2.out.size))
  have K3_0 := Lib.hid (K2_0.out.below hb K2_0.out.lt)
  clear hb K2_0
  refine hK.out _ _ K3_0.out (fun hS6 => ?_)
  clear hK K
  refine wpAnyH_take (i := 7) (v := ?_) rfl (by kernel_rfl) (by kernel_rfl) (by kernel_rfl) (fun _ _ _ h => h) (Or.inl ⟨by rfl, ?yldq⟩) (by assumption) ?_
  case yldq => (intro w hSw; (try dsimp only at hSw); go_simp; try with_reducible rfl)
  try simp only [Act.put, List.setIfInBounds_toArray, List.set_cons_zero, List.set_cons_succ, List.getElem_toArray, List.getElem_cons_succ, List.getElem_cons_zero]
  refine wpAnyH_take (i := 8) (v := ?_) rfl (by kernel_rfl) (by kernel_rfl) (by kernel_rfl) (fun _ _ _ h => h) (Or.inl ⟨by rfl, ?yldq⟩) (by assumption) ?_
  case yldq => (intro w hSw; (try dsimp only at hSw); go_simp; try with_reducible rfl)
  try simp only [Act.put, List.setIfInBounds_toArray, List.set_cons_zero, List.set_cons_succ, List.getElem_toArray, List.getElem_cons_succ, List.getElem_cons_zero]
  refine wpAnyH_ready (rs := [11]) (by kernel_rfl) (by simp) ?_
  refine AllReadyH.cons rfl (fun K hK => ?_) AllReadyH.nil
  go_simp
  refine (CQ.out _ L3.out).mono ?_
  rintro e w4 ⟨rfl, hb⟩
  have L4 := Lib.hid (L3.out.trans (hb.mono L3.out.size))
  have K4_0 := Lib.hid (K3_0.out.below hb K3_0.out.lt)
  clear hb K3_0
  refine hK.out _ _ K4_0.out (fun hS11 => ?_)
  clear hK K
  refine wpAnyH_take (i := 12) (v := ?_) rfl (by kernel_rfl) (by kernel_rfl) (by kernel_rfl) (fun _ _ _ h => h) (Or.inl ⟨by rfl, ?yldq⟩) (by assumption) ?_
  case yldq => (intro w hSw; (try dsimp only at hSw); go_simp; try with_reducible rfl)
  try simp only [Act.put, List.setIfInBounds_toArray, List.set_cons_zero, List.set_cons_succ, List.getElem_toArray, List.getElem_cons_succ, List.getElem_cons_zero]
  refine wpAnyH_take (i := 13) (v := ?_) rfl (by kernel_rfl) (by kernel_rfl) (by kernel_rfl) (fun _ _ _ h => h) (Or.inl ⟨by rfl, ?yldq⟩) (by assumption) ?_
  case yldq => (intro w hSw; (try dsimp only at hSw); go_simp; try with_reducible rfl)
  try simp only [Act.put, List.setIfInBounds_toArray, List.set_cons_zero, List.set_cons_succ, List.getElem_toArray, List.getElem_cons_succ, List.getElem_cons_zero]
  rw [← HX.out]
  refine wpAnyH_done (by kernel_rfl) ?_ _
  go_upto_region 2 with (fail)
  by_cases hh : h = 0
  · have hb0 : (h != 0) = false := by simpa using hh
    have HH := Lib.hid hh; clear hh
    by_cases hk : k = 4
    · have hb1 : (k == 4) = true := by simpa using hk
      have HKK := Lib.hid hk; clear hk
      have m0_0 : w4.cell? ⟨B1, 0, none⟩ = some _ := K4_0.out.cell 0
      have m0_1 : w4.cell? ⟨B1, 1, none⟩ = some _ := K4_0.out.cell 1
      have m0_2 : w4.cell? ⟨B1, 2, none⟩ = some _ := K4_0.out.cell 2
      have m0_3 : w4.cell? ⟨B1, 3, none⟩ = some _ := K4_0.out.cell 3
      have m0_4 : w4.cell? ⟨B1, 4, none⟩ = some _ := K4_0.out.cell 4
      have m0_5 : w4.cell? ⟨B1, 5, none⟩ = some _ := K4_0.out.cell 5
      have mlt0 : B1 < w4.heap.size := K4_0.out.lt
      go_wp2_with fail
      clear m0_0 m0_1 m0_2 m0_3 m0_4 m0_5 mlt0
      refine (CS.out _ L4.out).mono ?_
      rintro e w5 ⟨rfl, hb⟩
      have L5 := Lib.hid (L4.out.trans (hb.mono L4.out.size))
      have K5_0 := Lib.hid (K4_0.out.below hb K4_0.out.lt)
      clear hb K4_0
      by_cases hz : dl = 0
      · have hb2 : ¬ (0 : Int) < (dl : Int) := by omega
        have HZ := Lib.hid hz; clear hz
        have m0_0 : w5.cell? ⟨B1, 0, none⟩ = some _ := K5_0.out.cell 0
        have m0_1 : w5.cell? ⟨B1, 1, none⟩ = some _ := K5_0.out.cell 1
        have m0_2 : w5.cell? ⟨B1, 2, none⟩ = some _ := K5_0.out.cell 2
        have m0_3 : w5.cell? ⟨B1, 3, none⟩ = some _ := K5_0.out.cell 3
        have m0_4 : w5.cell? ⟨B1, 4, none⟩ = some _ := K5_0.out.cell 4
        have m0_5 : w5.cell? ⟨B1, 5, none⟩ = some _ := K5_0.out.cell 5
        have mlt0 : B1 < w5.heap.size := K5_0.out.lt
        go_wp2
        clear m0_0 m0_1 m0_2 m0_3 m0_4 m0_5 mlt0
        go_ret
        exact ⟨by rw [HO.out, if_pos HH.out, R0.out, if_pos HKK.out, RS.out, if_pos HZ.out, R0.out]; rfl, L5.out⟩
      · have hb2 : (0 : Int) < (dl : Int) := by omega
        have m0_0 : w5.cell? ⟨B1, 0, none⟩ = some _ := K5_0.out.cell 0
        have m0_1 : w5.cell? ⟨B1, 1, none⟩ = some _ := K5_0.out.cell 1
        have m0_2 : w5.cell? ⟨B1, 2, none⟩ = some _ := K5_0.out.cell 2
        have m0_3 : w5.cell? ⟨B1, 3, none⟩ = some _ := K5_0.out.cell 3
        have m0_4 : w5.cell? ⟨B1, 4, none⟩ = some _ := K5_0.out.cell 4
        have m0_5 : w5.cell? ⟨B1, 5, none⟩ = some _ := K5_0.out.cell 5
        have mlt0 : B1 < w5.heap.size := K5_0.out.lt
        go_wp2_with fail
        clear m0_0 m0_1 m0_2 m0_3 m0_4 m0_5 mlt0
        refine (CD.out _ L5.out).mono ?_
        rintro e w6 ⟨rfl, hb⟩
        have L6 := Lib.hid (L5.out.trans (hb.mono L5.out.size))
        have K6_0 := Lib.hid (K5_0.out.below hb K5_0.out.lt)
        clear hb K5_0
        have m0_0 : w6.cell? ⟨B1, 0, none⟩ = some _ := K6_0.out.cell 0
        have m0_1 : w6.cell? ⟨B1, 1, none⟩ = some _ := K6_0.out.cell 1
        have m0_2 : w6.cell? ⟨B1, 2, none⟩ = some _ := K6_0.out.cell 2
        have m0_3 : w6.cell? ⟨B1, 3, none⟩ = some _ := K6_0.out.cell 3
        have m0_4 : w6.cell? ⟨B1, 4, none⟩ = some _ := K6_0.out.cell 4
        have m0_5 : w6.cell? ⟨B1, 5, none⟩ = some _ := K6_0.out.cell 5
        have mlt0 : B1 < w6.heap.size := K6_0.out.lt
        go_wp2
        clear m0_0 m0_1 m0_2 m0_3 m0_4 m0_5 mlt0
        go_ret
        exact ⟨by rw [HO.out, if_pos HH.out, R0.out, if_pos HKK.out, RS.out, if_neg hz, RD.out]; rfl, L6.out⟩
    · have hb1 : (k == 4) = false := by simpa using hk
      by_cases hz : dl = 0
      · have hb2 : ¬ (0 : Int) < (dl : Int) := by omega
        have HZ := Lib.hid hz; clear hz
        have m0_0 : w4.cell? ⟨B1, 0, none⟩ = some _ := K4_0.out.cell 0
        have m0_1 : w4.cell? ⟨B1, 1, none⟩ = some _ := K4_0.out.cell 1
        have m0_2 : w4.cell? ⟨B1, 2, none⟩ = some _ := K4_0.out.cell 2
        have m0_3 : w4.cell? ⟨B1, 3, none⟩ = some _ := K4_0.out.cell 3
        have m0_4 : w4.cell? ⟨B1, 4, none⟩ = some _ := K4_0.out.cell 4
        have m0_5 : w4.cell? ⟨B1, 5, none⟩ = some _ := K4_0.out.cell 5
        have mlt0 : B1 < w4.heap.size := K4_0.out.lt
        go_wp2
        clear m0_0 m0_1 m0_2 m0_3 m0_4 m0_5 mlt0
        go_ret
        exact ⟨by rw [HO.out, if_pos HH.out, R0.out, if_neg hk, R0.out, if_pos HZ.out, R0.out]; rfl, L4.out⟩
      · have hb2 : (0 : Int) < (dl : Int) := by omega
        have m0_0 : w4.cell? ⟨B1, 0, none⟩ = some _ := K4_0.out.cell 0
        have m0_1 : w4.cell? ⟨B1, 1, none⟩ = some _ := K4_0.out.cell 1
        have m0_2 : w4.cell? ⟨B1, 2, none⟩ = some _ := K4_0.out.cell 2
        have m0_3 : w4.cell? ⟨B1, 3, none⟩ = some _ := K4_0.out.cell 3
        have m0_4 : w4.cell? ⟨B1, 4, none⟩ = some _ := K4_0.out.cell 4
        have m0_5 : w4.cell? ⟨B1, 5, none⟩ = some _ := K4_0.out.cell 5
        have mlt0 : B1 < w4.heap.size := K4_0.out.lt
        go_wp2_with fail
        clear m0_0 m0_1 m0_2 m0_3 m0_4 m0_5 mlt0
        refine (CD.out _ L4.out).mono ?_
        rintro e w7 ⟨rfl, hb⟩
        have L7 := Lib.hid (L4.out.trans (hb.mono L4.out.size))
        have K7_0 := Lib.hid (K4_0.out.below hb K4_0.out.lt)
        clear hb K4_0
        have m0_0 : w7.cell? ⟨B1, 0, none⟩ = some _ := K7_0.out.cell 0
        have m0_1 : w7.cell? ⟨B1, 1, none⟩ = some _ := K7_0.out.cell 1
        have m0_2 : w7.cell? ⟨B1, 2, none⟩ = some _ := K7_0.out.cell 2
        have m0_3 : w7.cell? ⟨B1, 3, none⟩ = some _ := K7_0.out.cell 3
        have m0_4 : w7.cell? ⟨B1, 4, none⟩ = some _ := K7_0.out.cell 4
        have m0_5 : w7.cell? ⟨B1, 5, none⟩ = some _ := K7_0.out.cell 5
        have mlt0 : B1 < w7.heap.size := K7_0.out.lt
        go_wp2
        clear m0_0 m0_1 m0_2 m0_3 m0_4 m0_5 mlt0
        go_ret
        exact ⟨by rw [HO.out, if_pos HH.out, R0.out, if_neg hk, R0.out, if_neg hz, RD.out]; rfl, L7.out⟩
  · have hb0 : (h != 0) = true := by simpa using hh
    have m0_0 : w4.cell? ⟨B1, 0, none⟩ = some _ := K4_0.out.cell 0
    have m0_1 : w4.cell? ⟨B1, 1, none⟩ = some _ := K4_0.out.cell 1
    have m0_2 : w4.cell? ⟨B1, 2, none⟩ = some _ := K4_0.out.cell 2
    have m0_3 : w4.cell? ⟨B1, 3, none⟩ = some _ := K4_0.out.cell 3
    have m0_4 : w4.cell? ⟨B1, 4, none⟩ = some _ := K4_0.out.cell 4
    have m0_5 : w4.cell? ⟨B1, 5, none⟩ = some _ := K4_0.out.cell 5
    have mlt0 : B1 < w4.heap.size := K4_0.out.lt
    go_wp2_with fail
    clear m0_0 m0_1 m0_2 m0_3 m0_4 m0_5 mlt0
    refine (CH.out _ L4.out).mono ?_
    rintro e w8 ⟨rfl, hb⟩
    have L8 := Lib.hid (L4.out.trans (hb.mono L4.out.size))
    have K8_0 := Lib.hid (K4_0.out.below hb K4_0.out.lt)
    clear hb K4_0
    by_cases hk : k = 4
    · have hb1 : (k == 4) = true := by simpa using hk
      have HKK := Lib.hid hk; clear hk
      have m0_0 : w8.cell? ⟨B1, 0, none⟩ = some _ := K8_0.out.cell 0
      have m0_1 : w8.cell? ⟨B1, 1, none⟩ = some _ := K8_0.out.cell 1
      have m0_2 : w8.cell? ⟨B1, 2, none⟩ = some _ := K8_0.out.cell 2
      have m0_3 : w8.cell? ⟨B1, 3, none⟩ = some _ := K8_0.out.cell 3
      have m0_4 : w8.cell? ⟨B1, 4, none⟩ = some _ := K8_0.out.cell 4
      have m0_5 : w8.cell? ⟨B1, 5, none⟩ = some _ := K8_0.out.cell 5
      have mlt0 : B1 < w8.heap.size := K8_0.out.lt
      go_wp2_with fail
      clear m0_0 m0_1 m0_2 m0_3 m0_4 m0_5 mlt0
      refine (CS.out _ L8.out).mono ?_
      rintro e w9 ⟨rfl, hb⟩
      have L9 := Lib.hid (L8.out.trans (hb.mono L8.out.size))
      have K9_0 := Lib.hid (K8_0.out.below hb K8_0.out.lt)
      clear hb K8_0
      by_cases hz : dl = 0
      · have hb2 : ¬ (0 : Int) < (dl : Int) := by omega
        have HZ := Lib.hid hz; clear hz
        have m0_0 : w9.cell? ⟨B1, 0, none⟩ = some _ := K9_0.out.cell 0
        have m0_1 : w9.cell? ⟨B1, 1, none⟩ = some _ := K9_0.out.cell 1
        have m0_2 : w9.cell? ⟨B1, 2, none⟩ = some _ := K9_0.out.cell 2
        have m0_3 : w9.cell? ⟨B1, 3, none⟩ = some _ := K9_0.out.cell 3
        have m0_4 : w9.cell? ⟨B1, 4, none⟩ = some _ := K9_0.out.cell 4
        have m0_5 : w9.cell? ⟨B1, 5, none⟩ = some _ := K9_0.out.cell 5
        have mlt0 : B1 < w9.heap.size := K9_0.out.lt
        go_wp2
        clear m0_0 m0_1 m0_2 m0_3 m0_4 m0_5 mlt0
        go_ret
        exact ⟨by rw [HO.out, if_neg hh, RH.out, if_pos HKK.out, RS.out, if_pos HZ.out, R0.out]; rfl, L9.out⟩
      · have hb2 : (0 : Int) < (dl : Int) := by omega
        have m0_0 : w9.cell? ⟨B1, 0, none⟩ = some _ := K9_0.out.cell 0
        have m0_1 : w9.cell? ⟨B1, 1, none⟩ = some _ := K9_0.out.cell 1
        have m0_2 : w9.cell? ⟨B1, 2, none⟩ = some _ := K9_0.out.cell 2
        have m0_3 : w9.cell? ⟨B1, 3, none⟩ = some _ := K9_0.out.cell 3
        have m0_4 : w9.cell? ⟨B1, 4, none⟩ = some _ := K9_0.out.cell 4
        have m0_5 : w9.cell? ⟨B1, 5, none⟩ = some _ := K9_0.out.cell 5
        have mlt0 : B1 < w9.heap.size := K9_0.out.lt
        go_wp2_with fail
        clear m0_0 m0_1 m0_2 m0_3 m0_4 m0_5 mlt0
        refine (CD.out _ L9.out).mono ?_
        rintro e w10 ⟨rfl, hb⟩
        have L10 := Lib.hid (L9.out.trans (hb.mono L9.out.size))
        have K10_0 := Lib.hid (K9_0.out.below hb K9_0.out.lt)
        clear hb K9_0
        have m0_0 : w10.cell? ⟨B1, 0, none⟩ = some _ := K10_0.out.cell 0
        have m0_1 : w10.cell? ⟨B1, 1, none⟩ = some _ := K10_0.out.cell 1
        have m0_2 : w10.cell? ⟨B1, 2, none⟩ = some _ := K10_0.out.cell 2
        have m0_3 : w10.cell? ⟨B1, 3, none⟩ = some _ := K10_0.out.cell 3
        have m0_4 : w10.cell? ⟨B1, 4, none⟩ = some _ := K10_0.out.cell 4
        have m0_5 : w10.cell? ⟨B1, 5, none⟩ = some _ := K10_0.out.cell 5
        have mlt0 : B1 < w10.heap.size := K10_0.out.lt
        go_wp2
        clear m0_0 m0_1 m0_2 m0_3 m0_4 m0_5 mlt0
        go_ret
        exact ⟨by rw [HO.out, if_neg hh, RH.out, if_pos HKK.out, RS.out, if_neg hz, RD.out]; rfl, L10.out⟩
    · have hb1 : (k == 4) = false := by simpa using hk
      by_cases hz : dl = 0
      · have hb2 : ¬ (0 : Int) < (dl : Int) := by omega
        have HZ := Lib.hid hz; clear hz
        have m0_0 : w8.cell? ⟨B1, 0, none⟩ = some _ := K8_0.out.cell 0
        have m0_1 : w8.cell? ⟨B1, 1, none⟩ = some _ := K8_0.out.cell 1
        have m0_2 : w8.cell? ⟨B1, 2, none⟩ = some _ := K8_0.out.cell 2
        have m0_3 : w8.cell? ⟨B1, 3, none⟩ = some _ := K8_0.out.cell 3
        have m0_4 : w8.cell? ⟨B1, 4, none⟩ = some _ := K8_0.out.cell 4
        have m0_5 : w8.cell? ⟨B1, 5, none⟩ = some _ := K8_0.out.cell 5
        have mlt0 : B1 < w8.heap.size := K8_0.out.lt
        go_wp2
        clear m0_0 m0_1 m0_2 m0_3 m0_4 m0_5 mlt0
        go_ret
        exact ⟨by rw [HO.out, if_neg hh, RH.out, if_neg hk, R0.out, if_pos HZ.out, R0.out]; rfl, L8.out⟩
      · have hb2 : (0 : Int) < (dl : Int) := by omega
        have m0_0 : w8.cell? ⟨B1, 0, none⟩ = some _ := K8_0.out.cell 0
        have m0_1 : w8.cell? ⟨B1, 1, none⟩ = some _ := K8_0.out.cell 1
        have m0_2 : w8.cell? ⟨B1, 2, none⟩ = some _ := K8_0.out.cell 2
        have m0_3 : w8.cell? ⟨B1, 3, none⟩ = some _ := K8_0.out.cell 3
        have m0_4 : w8.cell? ⟨B1, 4, none⟩ = some _ := K8_0.out.cell 4
        have m0_5 : w8.cell? ⟨B1, 5, none⟩ = some _ := K8_0.out.cell 5
        have mlt0 : B1 < w8.heap.size := K8_0.out.lt
        go_wp2_with fail
        clear m0_0 m0_1 m0_2 m0_3 m0_4 m0_5 mlt0
        refine (CD.out _ L8.out).mono ?_
        rintro e w11 ⟨rfl, hb⟩
        have L11 := Lib.hid (L8.out.trans (hb.mono L8.out.size))
        have K11_0 := Lib.hid (K8_0.out.below hb K8_0.out.lt)
        clear hb K8_0
        have m0_0 : w11.cell? ⟨B1, 0, none⟩ = some _ := K11_0.out.cell 0
        have m0_1 : w11.cell? ⟨B1, 1, none⟩ = some _ := K11_0.out.cell 1
        have m0_2 : w11.cell? ⟨B1, 2, none⟩ = some _ := K11_0.out.cell 2
        have m0_3 : w11.cell? ⟨B1, 3, none⟩ = some _ := K11_0.out.cell 3
        have m0_4 : w11.cell? ⟨B1, 4, none⟩ = some _ := K11_0.out.cell 4
        have m0_5 : w11.cell? ⟨B1, 5, none⟩ = some _ := K11_0.out.cell 5
        have mlt0 : B1 < w11.heap.size := K11_0.out.lt
        go_wp2
        clear m0_0 m0_1 m0_2 m0_3 m0_4 m0_5 mlt0
        go_ret
        exact ⟨by rw [HO.out, if_neg hh, RH.out, if_neg hk, R0.out, if_neg hz, RD.out]; rfl, L11.out⟩
set_option maxHeartbeats 8000000 in
theorem rtext_any15 (k p n h : Int) (s : Nat) (A : Option Addr) (dl cap : Nat) (d : List Int) (w : World) (hs : s < 65536) (ht : MgT ⟨k, p, n, h, s, d⟩) (hl : d.length = dl) (hd : dl ≤ 9223372036854775807) : Calls Tryd.prog 17 #[.agg #[.int .i64 k, .int .i64 p, .int .i64 n, .int .i64 h, .int .u16 (s : Int), .slice A dl cap]] w fun e w' => e = .returned (.string (bs (txtM ⟨k, p, n, h, s, d⟩))) ∧ Below w.heap.size w w' := by
  have cP : ∀ w2, Below w.heap.size w w2 → Calls Tryd.prog 28 #[.int .i64 p] w2 fun e w' => e = .returned (.string (bs (Lib.itoa p))) ∧ Below w2.heap.size w2 w' := fun w2 h2 => rnum_any (p) w2 (ht.p).1 (ht.p).2
  have cQ : ∀ w2, Below w.heap.size w w2 → Calls Tryd.prog 28 #[.int .i64 n] w2 fun e w' => e = .returned (.string (bs (Lib.itoa n))) ∧ Below w2.heap.size w2 w' := fun w2 h2 => rnum_any (n) w2 (ht.n).1 (ht.n).2
  have cH : ∀ w2, Below w.heap.size w w2 → Calls Tryd.prog 28 #[.int .i64 h] w2 fun e w' => e = .returned (.string (bs (Lib.itoa h))) ∧ Below w2.heap.size w2 w' := fun w2 h2 => rnum_any (h) w2 (ht.h).1 (ht.h).2
  have cD : ∀ w2, Below w.heap.size w w2 → Calls Tryd.prog 28 #[.int .i64 (dl : Int)] w2 fun e w' => e = .returned (.string (bs (Lib.itoa (dl : Int)))) ∧ Below w2.heap.size w2 w' := fun w2 h2 => rnum_any ((dl : Int)) w2 ((⟨by omega, by omega⟩ : -9223372036854775808 ≤ (dl : Int) ∧ (dl : Int) ≤ 9223372036854775807)).1 ((⟨by omega, by omega⟩ : -9223372036854775808 ≤ (dl : Int) ∧ (dl : Int) ≤ 9223372036854775807)).2
  have cS : ∀ w2, Below w.heap.size w w2 → Calls Tryd.prog 29 #[.int .u16 (s : Int)] w2 fun e w' => e = .returned (.string (bs (txt s))) ∧ Below w2.heap.size w2 w' := fun w2 h2 => rtext_any s w2 hs
  have zN : (bs (nam15 k)).size ≤ 6 := by rw [bs_size]; exact nam15_len k
  have zP : (bs (Lib.itoa p)).size ≤ 21 := by rw [bs_size]; exact Lib.itoa_length_le p ht.p.1 ht.p.2
  have zQ : (bs (Lib.itoa n)).size ≤ 21 := by rw [bs_size]; exact Lib.itoa_length_le n ht.n.1 ht.n.2
  have zH : (bs (Lib.itoa h)).size ≤ 21 := by rw [bs_size]; exact Lib.itoa_length_le h ht.h.1 ht.h.2
  have zD : (bs (Lib.itoa (dl : Int))).size ≤ 21 := by rw [bs_size]; exact Lib.itoa_length_le _ (by omega) (by omega)
  have zS : (bs (txt s)).size ≤ 48 := by rw [bs_size]; exact txt_len s
  obtain ⟨OUT, hO⟩ : ∃ OUT, OUT = bs (txtM ⟨k, p, n, h, s, d⟩) := ⟨_, rfl⟩
  rw [← hO]
  have hO2 : OUT = bs (tx0 ⟨k, p, n, h, s, d⟩) ++ bs (if h = 0 then [] else [32, 104, 111, 112, 115, 32] ++ Lib.itoa h) ++ bs (if k = 4 then [32, 115, 101, 116, 32] ++ txt s else []) ++ bs (if dl = 0 then [] else [32, 98, 121, 116, 101, 115, 32] ++ Lib.itoa (dl : Int)) := by
    rw [hO, bs_app, bs_app, bs_app]
    unfold txtM tx0
    dsimp only
    rw [hl, show (s : Int).toNat = s from rfl]
  have hX : bs (tx0 ⟨k, p, n, h, s, d⟩) = bs (nam15 k) ++ (bs [32, 112, 97, 103, 101, 32] ++ bs (Lib.itoa p) ++ bs [32, 110, 111, 100, 101, 32] ++ bs (Lib.itoa n)) := by
    simp only [bs_app]
    unfold tx0
    simp only [List.append_assoc]
  obtain ⟨X, hXX⟩ : ∃ X, X = bs (tx0 ⟨k, p, n, h, s, d⟩) := ⟨_, rfl⟩
  rw [← hXX] at hX hO2
  have zX : X.size ≤ 60 := by
    rw [hX]; simp only [ByteArray.size_append]
    have e1 : (bs [32, 112, 97, 103, 101, 32]).size = 6 := rfl
    have e2 : (bs [32, 110, 111, 100, 101, 32]).size = 6 := rfl
    omega
  have rH : bs ([32, 104, 111, 112, 115, 32] ++ Lib.itoa h) = ⟨#[32, 104, 111, 112, 115, 32]⟩ ++ bs (Lib.itoa h) := (bs_app _ _).symm
  have rS : bs ([32, 115, 101, 116, 32] ++ txt s) = ⟨#[32, 115, 101, 116, 32]⟩ ++ bs (txt s) := (bs_app _ _).symm
  have rD : bs ([32, 98, 121, 116, 101, 115, 32] ++ Lib.itoa (dl : Int)) = ⟨#[32, 98, 121, 116, 101, 115, 32]⟩ ++ bs (Lib.itoa (dl : Int)) := (bs_app _ _).symm
  have r0 : ∀ Y : ByteArray, Y ++ bs [] = Y := fun Y => by
    have e : ∀ s t : ByteArray, s.data.toList = t.data.toList → s = t := fun s t h => by
      cases s; cases t; simp at h; subst h; rfl
    apply e; simp [bs]
  replace hX : X = bs (nam15 k) ++ (⟨#[32, 112, 97, 103, 101, 32]⟩ ++ bs (Lib.itoa p) ++ ⟨#[32, 110, 111, 100, 101, 32]⟩ ++ bs (Lib.itoa n)) := hX
  have HX := Lib.hid hX; have HO := Lib.hid hO2; have RH := Lib.hid rH; have RS := Lib.hid rS; have RD := Lib.hid rD; have R0 := Lib.hid r0
  clear hX hXX hO hO2 rH rS rD r0 ht hl
  have hnm := fun h => nam15_no k h
  have HNN := Lib.hid hnm; clear hnm
  generalize bs (Lib.itoa p) = Pb at *
  generalize bs (Lib.itoa n) = Qb at *
  generalize bs (Lib.itoa h) = Hb at *
  generalize bs (Lib.itoa (dl : Int)) = Db at *
  generalize bs (txt s) = Sb at *
  have CP := Lib.hid cP; clear cP
  have CQ := Lib.hid cQ; clear cQ
  have CH := Lib.hid cH; clear cH
  have CD := Lib.hid cD; clear cD
  have CS := Lib.hid cS; clear cS
  go_enter Tryd.func17, Tryd.ntmps17
  go_upto_region 1 with (fail)
  have nb0 : Blk (w.alloc (.cells #[.int .i64 k, .int .i64 p, .int .i64 n, .int .i64 h, .int .u16 (s : Int), .slice A dl cap] 26)) (w.heap.size) [.int .i64 k, .int .i64 p, .int .i64 n, .int .i64 h, .int .u16 (s : Int), .slice A dl cap] 26 := Blk.new w [.int .i64 k, .int .i64 p, .int .i64 n, .int .i64 h, .int .u16 (s : Int), .slice A dl cap] 26
  have nls : Below w.heap.size w w := (Below.refl w.heap.size w)
  have nl0 := nls.alloc nls.size (.cells #[.int .i64 k, .int .i64 p, .int .i64 n, .int .i64 h, .int .u16 (s : Int), .slice A dl cap] 26)
  have nl : Below w.heap.size w (w.alloc (.cells #[.int .i64 k, .int .i64 p, .int .i64 n, .int .i64 h, .int .u16 (s : Int), .slice A dl cap] 26)) := nl0; clear nls nl0
  obtain ⟨B1, hB0⟩ : ∃ B, B = w.heap.size := ⟨_, rfl⟩
  obtain ⟨W1, hW⟩ : ∃ W, W = (w.alloc (.cells #[.int .i64 k, .int .i64 p, .int .i64 n, .int .i64 h, .int .u16 (s : Int), .slice A dl cap] 26)) := ⟨_, rfl⟩
  rw [← hW] at nl nb0
  rw [← hB0] at nb0
  rw [← hW]
  try rw [← hB0]
  have K1_0 := Lib.hid nb0
  have G1 : Hid (w.heap.size ≤ B1) := Lib.hid (by have := (Nat.le_refl w.heap.size); omega)
  have L1 := Lib.hid nl
  clear nl hW nb0 hB0
  by_cases hk : 1 ≤ k ∧ k ≤ 6
  · obtain ⟨hk1, hk6⟩ := hk
    have hki : ∀ i : Nat, (i : Int) = k - 1 → [.string ⟨#[114, 101, 97, 100]⟩, .string ⟨#[119, 114, 105, 116, 101]⟩, .string ⟨#[99, 111, 112, 121]⟩, .string ⟨#[103, 114, 97, 110, 116]⟩, .string ⟨#[102, 111, 114, 103, 101, 116]⟩, .string ⟨#[102, 111, 114, 103, 111, 116]⟩][i]? = some (Value.string (bs (nam15 k))) := fun i hi => by
      obtain rfl : k = (i : Int) + 1 := by omega
      match i, (show i < 6 by omega) with
      | 0, _ | 1, _ | 2, _ | 3, _ | 4, _ | 5, _ => rfl
    have hcl : (W1.alloc (.cells #[.string ⟨#[114, 101, 97, 100]⟩, .string ⟨#[119, 114, 105, 116, 101]⟩, .string ⟨#[99, 111, 112, 121]⟩, .string ⟨#[103, 114, 97, 110, 116]⟩, .string ⟨#[102, 111, 114, 103, 101, 116]⟩, .string ⟨#[102, 111, 114, 103, 111, 116]⟩] 9)).cell? ⟨W1.heap.size, k.toNat - 1, none⟩ = some (.string (bs (nam15 k))) := (Blk.cell (Blk.new W1 [.string ⟨#[114, 101, 97, 100]⟩, .string ⟨#[119, 114, 105, 116, 101]⟩, .string ⟨#[99, 111, 112, 121]⟩, .string ⟨#[103, 114, 97, 110, 116]⟩, .string ⟨#[102, 111, 114, 103, 101, 116]⟩, .string ⟨#[102, 111, 114, 103, 111, 116]⟩] 9) _).trans (hki _ (by omega))
    have hj0 : 0 ≤ k - 1 := by omega
    have hj6 : k - 1 < 6 := by omega
    clear hki
    generalize bs (nam15 k) = Nb at *
    have m0_0 : W1.cell? ⟨B1, 0, none⟩ = some _ := K1_0.out.cell 0
    have m0_1 : W1.cell? ⟨B1, 1, none⟩ = some _ := K1_0.out.cell 1
    have m0_2 : W1.cell? ⟨B1, 2, none⟩ = some _ := K1_0.out.cell 2
    have m0_3 : W1.cell? ⟨B1, 3, none⟩ = some _ := K1_0.out.cell 3
    have m0_4 : W1.cell? ⟨B1, 4, none⟩ = some _ := K1_0.out.cell 4
    have m0_5 : W1.cell? ⟨B1, 5, none⟩ = some _ := K1_0.out.cell 5
    have mlt0 : B1 < W1.heap.size := K1_0.out.lt
    go_upto_region 4 with (fail)
    clear m0_0 m0_1 m0_2 m0_3 m0_4 m0_5 mlt0
    clear hcl hj0 hj6 hk1 hk6
    have nb0 : Blk (W1.alloc (.cells #[.string ⟨#[114, 101, 97, 100]⟩, .string ⟨#[119, 114, 105, 116, 101]⟩, .string ⟨#[99, 111, 112, 121]⟩, .string ⟨#[103, 114, 97, 110, 116]⟩, .string ⟨#[102, 111, 114, 103, 101, 116]⟩, .string ⟨#[102, 111, 114, 103, 111, 116]⟩] 9)) (W1.heap.size) [.string ⟨#[114, 101, 97, 100]⟩, .string ⟨#[119, 114, 105, 116, 101]⟩, .string ⟨#[99, 111, 112, 121]⟩, .string ⟨#[103, 114, 97, 110, 116]⟩, .string ⟨#[102, 111, 114, 103, 101, 116]⟩, .string ⟨#[102, 111, 114, 103, 111, 116]⟩] 9 := Blk.new W1 [.string ⟨#[114, 101, 97, 100]⟩, .string ⟨#[119, 114, 105, 116, 101]⟩, .string ⟨#[99, 111, 112, 121]⟩, .string ⟨#[103, 114, 97, 110, 116]⟩, .string ⟨#[102, 111, 114, 103, 101, 116]⟩, .string ⟨#[102, 111, 114, 103, 111, 116]⟩] 9
    have nls : Below w.heap.size w W1 := L1.out
    have nl0 := nls.alloc nls.size (.cells #[.string ⟨#[114, 101, 97, 100]⟩, .string ⟨#[119, 114, 105, 116, 101]⟩, .string ⟨#[99, 111, 112, 121]⟩, .string ⟨#[103, 114, 97, 110, 116]⟩, .string ⟨#[102, 111, 114, 103, 101, 116]⟩, .string ⟨#[102, 111, 114, 103, 111, 116]⟩] 9)
    have nl : Below w.heap.size w (W1.alloc (.cells #[.string ⟨#[114, 101, 97, 100]⟩, .string ⟨#[119, 114, 105, 116, 101]⟩, .string ⟨#[99, 111, 112, 121]⟩, .string ⟨#[103, 114, 97, 110, 116]⟩, .string ⟨#[102, 111, 114, 103, 101, 116]⟩, .string ⟨#[102, 111, 114, 103, 111, 116]⟩] 9)) := nl0; clear nls nl0
    have o0 : Blk (W1.alloc (.cells #[.string ⟨#[114, 101, 97, 100]⟩, .string ⟨#[119, 114, 105, 116, 101]⟩, .string ⟨#[99, 111, 112, 121]⟩, .string ⟨#[103, 114, 97, 110, 116]⟩, .string ⟨#[102, 111, 114, 103, 101, 116]⟩, .string ⟨#[102, 111, 114, 103, 111, 116]⟩] 9)) B1 [.int .i64 k, .int .i64 p, .int .i64 n, .int .i64 h, .int .u16 (s : Int), .slice A dl cap] 26 := (K1_0.out.alloc (.cells #[.string ⟨#[114, 101, 97, 100]⟩, .string ⟨#[119, 114, 105, 116, 101]⟩, .string ⟨#[99, 111, 112, 121]⟩, .string ⟨#[103, 114, 97, 110, 116]⟩, .string ⟨#[102, 111, 114, 103, 101, 116]⟩, .string ⟨#[102, 111, 114, 103, 111, 116]⟩] 9))
    have d2_0 : B1 < W1.heap.size := K1_0.out.lt
    obtain ⟨B2, hB0⟩ : ∃ B, B = W1.heap.size := ⟨_, rfl⟩
    obtain ⟨W2, hW⟩ : ∃ W, W = (W1.alloc (.cells #[.string ⟨#[114, 101, 97, 100]⟩, .string ⟨#[119, 114, 105, 116, 101]⟩, .string ⟨#[99, 111, 112, 121]⟩, .string ⟨#[103, 114, 97, 110, 116]⟩, .string ⟨#[102, 111, 114, 103, 101, 116]⟩, .string ⟨#[102, 111, 114, 103, 111, 116]⟩] 9)) := ⟨_, rfl⟩
    rw [← hW] at nl nb0 o0
    rw [← hB0] at nb0
    rw [← hW]
    try rw [← hB0]
    have K2_0 := Lib.hid o0
    have K2_1 := Lib.hid nb0
    have G2 : Hid (w.heap.size ≤ B2) := Lib.hid (by have := L1.out.size; omega)
    have x2_0_0 : B1 ≠ B2 := by omega
    have X2_0_0 := Lib.hid x2_0_0; clear x2_0_0
    have L2 := Lib.hid nl
    clear nl hW nb0 hB0 o0 d2_0 K1_0
    have f1 := add15 ⟨#[32, 112, 97, 103, 101, 32]⟩ Pb (by have : (ByteArray.size ⟨#[32, 112, 97, 103, 101, 32]⟩) = 6 := rfl; omega)
    have f2 := add15 (⟨#[32, 112, 97, 103, 101, 32]⟩ ++ Pb) ⟨#[32, 110, 111, 100, 101, 32]⟩ (by have : (ByteArray.size ⟨#[32, 112, 97, 103, 101, 32]⟩) = 6 := rfl; have : (ByteArray.size ⟨#[32, 110, 111, 100, 101, 32]⟩) = 6 := rfl; rw [ByteArray.size_append]; omega)
    have f3 := add15 (⟨#[32, 112, 97, 103, 101, 32]⟩ ++ Pb ++ ⟨#[32, 110, 111, 100, 101, 32]⟩) Qb (by have : (ByteArray.size ⟨#[32, 112, 97, 103, 101, 32]⟩) = 6 := rfl; have : (ByteArray.size ⟨#[32, 110, 111, 100, 101, 32]⟩) = 6 := rfl; rw [ByteArray.size_append, ByteArray.size_append]; omega)
    have f4 := add15 Nb (⟨#[32, 112, 97, 103, 101, 32]⟩ ++ Pb ++ ⟨#[32, 110, 111, 100, 101, 32]⟩ ++ Qb) (by have : (ByteArray.size ⟨#[32, 112, 97, 103, 101, 32]⟩) = 6 := rfl; have : (ByteArray.size ⟨#[32, 110, 111, 100, 101, 32]⟩) = 6 := rfl; have : (ByteArray.size ⟨#[63]⟩) = 1 := rfl; rw [ByteArray.size_append, ByteArray.size_append, ByteArray.size_append]; omega)
    refine wp_region_held_drew (S := fun w' => Blk w' B1 [.int .i64 k, .int .i64 p, .int .i64 n, .int .i64 h, .int .u16 (s : Int), .slice A dl cap] 26 ∧ Blk w' B2 [.string ⟨#[114, 101, 97, 100]⟩, .string ⟨#[119, 114, 105, 116, 101]⟩, .string ⟨#[99, 111, 112, 121]⟩, .string ⟨#[103, 114, 97, 110, 116]⟩, .string ⟨#[102, 111, 114, 103, 101, 116]⟩, .string ⟨#[102, 111, 114, 103, 111, 116]⟩] 9) (by kernel_rfl) ⟨K2_0.out, K2_1.out⟩ (fun hHeld => ?_)
    simp only [List.size_toArray, List.length_cons, List.length_nil, Nat.reduceAdd]
    rw [show Array.replicate 12 false = [false, false, false, false, false, false, false, false, false, false, false, false].toArray from rfl]
    refine wpAnyH_take (i := 0) (v := ?_) rfl (by kernel_rfl) (by kernel_rfl) (by kernel_rfl) (fun _ _ _ h => h) (Or.inl ⟨by rfl, ?yldq⟩) (by assumption) ?_
    case yldq => (intro w hSw; (try dsimp only at hSw); go_simp; try with_reducible rfl)
    try simp only [Act.put, List.setIfInBounds_toArray, List.set_cons_zero, List.set_cons_succ, List.getElem_toArray, List.getElem_cons_succ, List.getElem_cons_zero]
    refine wpAnyH_take (i := 1) (v := ?_) rfl (by kernel_rfl) (by kernel_rfl) (by kernel_rfl) (fun _ _ _ h => h) (Or.inl ⟨by rfl, ?yldq⟩) (by assumption) ?_
    case yldq => (intro w hSw; (try dsimp only at hSw); go_simp; try with_reducible rfl)
    try simp only [Act.put, List.setIfInBounds_toArray, List.set_cons_zero, List.set_cons_succ, List.getElem_toArray, List.getElem_cons_succ, List.getElem_cons_zero]
    refine wpAnyH_take (i := 2) (v := _) rfl (by kernel_rfl) (by kernel_rfl) (by kernel_rfl) (fun _ _ _ h => h) (Or.inl ⟨by rfl, fun w hSw => yield_i15 _ _ _ rfl rfl (hSw.1.cell 1)⟩) (by assumption) ?_
    try simp only [Act.put, List.setIfInBounds_toArray, List.set_cons_zero, List.set_cons_succ, List.getElem_toArray, List.getElem_cons_succ, List.getElem_cons_zero]
    refine wpAnyH_take (i := 6) (v := ?_) rfl (by kernel_rfl) (by kernel_rfl) (by kernel_rfl) (fun _ _ _ h => h) (Or.inl ⟨by rfl, ?yldq⟩) (by assumption) ?_
    case yldq => (intro w hSw; (try dsimp only at hSw); go_simp; try with_reducible rfl)
    try simp only [Act.put, List.setIfInBounds_toArray, List.set_cons_zero, List.set_cons_succ, List.getElem_toArray, List.getElem_cons_succ, List.getElem_cons_zero]
    refine wpAnyH_take (i := 7) (v := _) rfl (by kernel_rfl) (by kernel_rfl) (by kernel_rfl) (fun _ _ _ h => h) (Or.inl ⟨by rfl, fun w hSw => yield_i15 _ _ _ rfl rfl (hSw.1.cell 2)⟩) (by assumption) ?_
    try simp only [Act.put, List.setIfInBounds_toArray, List.set_cons_zero, List.set_cons_succ, List.getElem_toArray, List.getElem_cons_succ, List.getElem_cons_zero]
    refine wpAnyH_ready (rs := [3]) (by kernel_rfl) (by simp) ?_
    refine AllReadyH.cons rfl (fun K hK => ?_) AllReadyH.nil
    go_simp
    refine (CP.out _ (L2.out.drew)).mono ?_
    rintro e w3 ⟨rfl, hb⟩
    have L3 := Lib.hid ((L2.out.drew).trans (hb.mono L2.out.size))
    have K3_0 := Lib.hid ((Blk.drewN K2_0.out 1).below hb K2_0.out.lt)
    have K3_1 := Lib.hid ((Blk.drewN K2_1.out 1).below hb K2_1.out.lt)
    clear hb K2_0 K2_1
    refine hK.out _ _ ⟨K3_0.out, K3_1.out⟩ (fun hS3 => ?_)
    clear hK K
    refine wpAnyH_take (i := 4) (v := ?_) rfl (by kernel_rfl) (by kernel_rfl) (by kernel_rfl) (fun _ _ _ h => h) (Or.inl ⟨by rfl, ?yldq⟩) (by assumption) ?_
    case yldq => (intro w hSw; (try dsimp only at hSw); go_simp; try with_reducible rfl)
    try simp only [Act.put, List.setIfInBounds_toArray, List.set_cons_zero, List.set_cons_succ, List.getElem_toArray, List.getElem_cons_succ, List.getElem_cons_zero]
    refine wpAnyH_take (i := 5) (v := ?_) rfl (by kernel_rfl) (by kernel_rfl) (by kernel_rfl) (fun _ _ _ h => h) (Or.inl ⟨by rfl, ?yldq⟩) (by assumption) ?_
    case yldq => (intro w hSw; (try dsimp only at hSw); go_simp; try with_reducible rfl)
    try simp only [Act.put, List.setIfInBounds_toArray, List.set_cons_zero, List.set_cons_succ, List.getElem_toArray, List.getElem_cons_succ, List.getElem_cons_zero]
    refine wpAnyH_ready (rs := [8]) (by kernel_rfl) (by simp) ?_
    refine AllReadyH.cons rfl (fun K hK => ?_) AllReadyH.nil
    go_simp
    refine (CQ.out _ L3.out).mono ?_
    rintro e w4 ⟨rfl, hb⟩
    have L4 := Lib.hid (L3.out.trans (hb.mono L3.out.size))
    have K4_0 := Lib.hid (K3_0.out.below hb K3_0.out.lt)
    have K4_1 := Lib.hid (K3_1.out.below hb K3_1.out.lt)
    clear hb K3_0 K3_1
    refine hK.out _ _ ⟨K4_0.out, K4_1.out⟩ (fun hS8 => ?_)
    clear hK K
    refine wpAnyH_take (i := 9) (v := ?_) rfl (by kernel_rfl) (by kernel_rfl) (by kernel_rfl) (fun _ _ _ h => h) (Or.inl ⟨by rfl, ?yldq⟩) (by assumption) ?_
    case yldq => (intro w hSw; (try dsimp only at hSw); go_simp; try with_reducible rfl)
    try simp only [Act.put, List.setIfInBounds_toArray, List.set_cons_zero, List.set_cons_succ, List.getElem_toArray, List.getElem_cons_succ, List.getElem_cons_zero]
    refine wpAnyH_take (i := 10) (v := ?_) rfl (by kernel_rfl) (by kernel_rfl) (by kernel_rfl) (fun _ _ _ h => h) (Or.inl ⟨by rfl, ?yldq⟩) (by assumption) ?_
    case yldq => (intro w hSw; (try dsimp only at hSw); go_simp; try with_reducible rfl)
    try simp only [Act.put, List.setIfInBounds_toArray, List.set_cons_zero, List.set_cons_succ, List.getElem_toArray, List.getElem_cons_succ, List.getElem_cons_zero]
    refine wpAnyH_take (i := 11) (v := ?_) rfl (by kernel_rfl) (by kernel_rfl) (by kernel_rfl) (fun _ _ _ h => h) (Or.inl ⟨by rfl, ?yldq⟩) (by assumption) ?_
    case yldq => (intro w hSw; (try dsimp only at hSw); go_simp; try with_reducible rfl)
    try simp only [Act.put, List.setIfInBounds_toArray, List.set_cons_zero, List.set_cons_succ, List.getElem_toArray, List.getElem_cons_succ, List.getElem_cons_zero]
    rw [← HX.out]
    refine wpAnyH_done (by kernel_rfl) ?_ _
    go_upto_region 5 with (fail)
    by_cases hh : h = 0
    · have hb0 : (h != 0) = false := by simpa using hh
      have HH := Lib.hid hh; clear hh
      by_cases hk : k = 4
      · have hb1 : (k == 4) = true := by simpa using hk
        have HKK := Lib.hid hk; clear hk
        have m0_0 : w4.cell? ⟨B1, 0, none⟩ = some _ := K4_0.out.cell 0
        have m0_1 : w4.cell? ⟨B1, 1, none⟩ = some _ := K4_0.out.cell 1
        have m0_2 : w4.cell? ⟨B1, 2, none⟩ = some _ := K4_0.out.cell 2
        have m0_3 : w4.cell? ⟨B1, 3, none⟩ = some _ := K4_0.out.cell 3
        have m0_4 : w4.cell? ⟨B1, 4, none⟩ = some _ := K4_0.out.cell 4
        have m0_5 : w4.cell? ⟨B1, 5, none⟩ = some _ := K4_0.out.cell 5
        have mlt0 : B1 < w4.heap.size := K4_0.out.lt
        go_wp2_with fail
        clear m0_0 m0_1 m0_2 m0_3 m0_4 m0_5 mlt0
        refine (CS.out _ L4.out).mono ?_
        rintro e w5 ⟨rfl, hb⟩
        have L5 := Lib.hid (L4.out.trans (hb.mono L4.out.size))
        have K5_0 := Lib.hid (K4_0.out.below hb K4_0.out.lt)
        have K5_1 := Lib.hid (K4_1.out.below hb K4_1.out.lt)
        clear hb K4_0 K4_1
        by_cases hz : dl = 0
        · have hb2 : ¬ (0 : Int) < (dl : Int) := by omega
          have HZ := Lib.hid hz; clear hz
          have m0_0 : w5.cell? ⟨B1, 0, none⟩ = some _ := K5_0.out.cell 0
          have m0_1 : w5.cell? ⟨B1, 1, none⟩ = some _ := K5_0.out.cell 1
          have m0_2 : w5.cell? ⟨B1, 2, none⟩ = some _ := K5_0.out.cell 2
          have m0_3 : w5.cell? ⟨B1, 3, none⟩ = some _ := K5_0.out.cell 3
          have m0_4 : w5.cell? ⟨B1, 4, none⟩ = some _ := K5_0.out.cell 4
          have m0_5 : w5.cell? ⟨B1, 5, none⟩ = some _ := K5_0.out.cell 5
          have mlt0 : B1 < w5.heap.size := K5_0.out.lt
          go_wp2
          clear m0_0 m0_1 m0_2 m0_3 m0_4 m0_5 mlt0
          go_ret
          exact ⟨by rw [HO.out, if_pos HH.out, R0.out, if_pos HKK.out, RS.out, if_pos HZ.out, R0.out]; rfl, L5.out⟩
        · have hb2 : (0 : Int) < (dl : Int) := by omega
          have m0_0 : w5.cell? ⟨B1, 0, none⟩ = some _ := K5_0.out.cell 0
          have m0_1 : w5.cell? ⟨B1, 1, none⟩ = some _ := K5_0.out.cell 1
          have m0_2 : w5.cell? ⟨B1, 2, none⟩ = some _ := K5_0.out.cell 2
          have m0_3 : w5.cell? ⟨B1, 3, none⟩ = some _ := K5_0.out.cell 3
          have m0_4 : w5.cell? ⟨B1, 4, none⟩ = some _ := K5_0.out.cell 4
          have m0_5 : w5.cell? ⟨B1, 5, none⟩ = some _ := K5_0.out.cell 5
          have mlt0 : B1 < w5.heap.size := K5_0.out.lt
          go_wp2_with fail
          clear m0_0 m0_1 m0_2 m0_3 m0_4 m0_5 mlt0
          refine (CD.out _ L5.out).mono ?_
          rintro e w6 ⟨rfl, hb⟩
          have L6 := Lib.hid (L5.out.trans (hb.mono L5.out.size))
          have K6_0 := Lib.hid (K5_0.out.below hb K5_0.out.lt)
          have K6_1 := Lib.hid (K5_1.out.below hb K5_1.out.lt)
          clear hb K5_0 K5_1
          have m0_0 : w6.cell? ⟨B1, 0, none⟩ = some _ := K6_0.out.cell 0
          have m0_1 : w6.cell? ⟨B1, 1, none⟩ = some _ := K6_0.out.cell 1
          have m0_2 : w6.cell? ⟨B1, 2, none⟩ = some _ := K6_0.out.cell 2
          have m0_3 : w6.cell? ⟨B1, 3, none⟩ = some _ := K6_0.out.cell 3
          have m0_4 : w6.cell? ⟨B1, 4, none⟩ = some _ := K6_0.out.cell 4
          have m0_5 : w6.cell? ⟨B1, 5, none⟩ = some _ := K6_0.out.cell 5
          have mlt0 : B1 < w6.heap.size := K6_0.out.lt
          go_wp2
          clear m0_0 m0_1 m0_2 m0_3 m0_4 m0_5 mlt0
          go_ret
          exact ⟨by rw [HO.out, if_pos HH.out, R0.out, if_pos HKK.out, RS.out, if_neg hz, RD.out]; rfl, L6.out⟩
      · have hb1 : (k == 4) = false := by simpa using hk
        by_cases hz : dl = 0
        · have hb2 : ¬ (0 : Int) < (dl : Int) := by omega
          have HZ := Lib.hid hz; clear hz
          have m0_0 : w4.cell? ⟨B1, 0, none⟩ = some _ := K4_0.out.cell 0
          have m0_1 : w4.cell? ⟨B1, 1, none⟩ = some _ := K4_0.out.cell 1
          have m0_2 : w4.cell? ⟨B1, 2, none⟩ = some _ := K4_0.out.cell 2
          have m0_3 : w4.cell? ⟨B1, 3, none⟩ = some _ := K4_0.out.cell 3
          have m0_4 : w4.cell? ⟨B1, 4, none⟩ = some _ := K4_0.out.cell 4
          have m0_5 : w4.cell? ⟨B1, 5, none⟩ = some _ := K4_0.out.cell 5
          have mlt0 : B1 < w4.heap.size := K4_0.out.lt
          go_wp2
          clear m0_0 m0_1 m0_2 m0_3 m0_4 m0_5 mlt0
          go_ret
          exact ⟨by rw [HO.out, if_pos HH.out, R0.out, if_neg hk, R0.out, if_pos HZ.out, R0.out]; rfl, L4.out⟩
        · have hb2 : (0 : Int) < (dl : Int) := by omega
          have m0_0 : w4.cell? ⟨B1, 0, none⟩ = some _ := K4_0.out.cell 0
          have m0_1 : w4.cell? ⟨B1, 1, none⟩ = some _ := K4_0.out.cell 1
          have m0_2 : w4.cell? ⟨B1, 2, none⟩ = some _ := K4_0.out.cell 2
          have m0_3 : w4.cell? ⟨B1, 3, none⟩ = some _ := K4_0.out.cell 3
          have m0_4 : w4.cell? ⟨B1, 4, none⟩ = some _ := K4_0.out.cell 4
          have m0_5 : w4.cell? ⟨B1, 5, none⟩ = some _ := K4_0.out.cell 5
          have mlt0 : B1 < w4.heap.size := K4_0.out.lt
          go_wp2_with fail
          clear m0_0 m0_1 m0_2 m0_3 m0_4 m0_5 mlt0
          refine (CD.out _ L4.out).mono ?_
          rintro e w7 ⟨rfl, hb⟩
          have L7 := Lib.hid (L4.out.trans (hb.mono L4.out.size))
          have K7_0 := Lib.hid (K4_0.out.below hb K4_0.out.lt)
          have K7_1 := Lib.hid (K4_1.out.below hb K4_1.out.lt)
          clear hb K4_0 K4_1
          have m0_0 : w7.cell? ⟨B1, 0, none⟩ = some _ := K7_0.out.cell 0
          have m0_1 : w7.cell? ⟨B1, 1, none⟩ = some _ := K7_0.out.cell 1
          have m0_2 : w7.cell? ⟨B1, 2, none⟩ = some _ := K7_0.out.cell 2
          have m0_3 : w7.cell? ⟨B1, 3, none⟩ = some _ := K7_0.out.cell 3
          have m0_4 : w7.cell? ⟨B1, 4, none⟩ = some _ := K7_0.out.cell 4
          have m0_5 : w7.cell? ⟨B1, 5, none⟩ = some _ := K7_0.out.cell 5
          have mlt0 : B1 < w7.heap.size := K7_0.out.lt
          go_wp2
          clear m0_0 m0_1 m0_2 m0_3 m0_4 m0_5 mlt0
          go_ret
          exact ⟨by rw [HO.out, if_pos HH.out, R0.out, if_neg hk, R0.out, if_neg hz, RD.out]; rfl, L7.out⟩
    · have hb0 : (h != 0) = true := by simpa using hh
      have m0_0 : w4.cell? ⟨B1, 0, none⟩ = some _ := K4_0.out.cell 0
      have m0_1 : w4.cell? ⟨B1, 1, none⟩ = some _ := K4_0.out.cell 1
      have m0_2 : w4.cell? ⟨B1, 2, none⟩ = some _ := K4_0.out.cell 2
      have m0_3 : w4.cell? ⟨B1, 3, none⟩ = some _ := K4_0.out.cell 3
      have m0_4 : w4.cell? ⟨B1, 4, none⟩ = some _ := K4_0.out.cell 4
      have m0_5 : w4.cell? ⟨B1, 5, none⟩ = some _ := K4_0.out.cell 5
      have mlt0 : B1 < w4.heap.size := K4_0.out.lt
      go_wp2_with fail
      clear m0_0 m0_1 m0_2 m0_3 m0_4 m0_5 mlt0
      refine (CH.out _ L4.out).mono ?_
      rintro e w8 ⟨rfl, hb⟩
      have L8 := Lib.hid (L4.out.trans (hb.mono L4.out.size))
      have K8_0 := Lib.hid (K4_0.out.below hb K4_0.out.lt)
      have K8_1 := Lib.hid (K4_1.out.below hb K4_1.out.lt)
      clear hb K4_0 K4_1
      by_cases hk : k = 4
      · have hb1 : (k == 4) = true := by simpa using hk
        have HKK := Lib.hid hk; clear hk
        have m0_0 : w8.cell? ⟨B1, 0, none⟩ = some _ := K8_0.out.cell 0
        have m0_1 : w8.cell? ⟨B1, 1, none⟩ = some _ := K8_0.out.cell 1
        have m0_2 : w8.cell? ⟨B1, 2, none⟩ = some _ := K8_0.out.cell 2
        have m0_3 : w8.cell? ⟨B1, 3, none⟩ = some _ := K8_0.out.cell 3
        have m0_4 : w8.cell? ⟨B1, 4, none⟩ = some _ := K8_0.out.cell 4
        have m0_5 : w8.cell? ⟨B1, 5, none⟩ = some _ := K8_0.out.cell 5
        have mlt0 : B1 < w8.heap.size := K8_0.out.lt
        go_wp2_with fail
        clear m0_0 m0_1 m0_2 m0_3 m0_4 m0_5 mlt0
        refine (CS.out _ L8.out).mono ?_
        rintro e w9 ⟨rfl, hb⟩
        have L9 := Lib.hid (L8.out.trans (hb.mono L8.out.size))
        have K9_0 := Lib.hid (K8_0.out.below hb K8_0.out.lt)
        have K9_1 := Lib.hid (K8_1.out.below hb K8_1.out.lt)
        clear hb K8_0 K8_1
        by_cases hz : dl = 0
        · have hb2 : ¬ (0 : Int) < (dl : Int) := by omega
          have HZ := Lib.hid hz; clear hz
          have m0_0 : w9.cell? ⟨B1, 0, none⟩ = some _ := K9_0.out.cell 0
          have m0_1 : w9.cell? ⟨B1, 1, none⟩ = some _ := K9_0.out.cell 1
          have m0_2 : w9.cell? ⟨B1, 2, none⟩ = some _ := K9_0.out.cell 2
          have m0_3 : w9.cell? ⟨B1, 3, none⟩ = some _ := K9_0.out.cell 3
          have m0_4 : w9.cell? ⟨B1, 4, none⟩ = some _ := K9_0.out.cell 4
          have m0_5 : w9.cell? ⟨B1, 5, none⟩ = some _ := K9_0.out.cell 5
          have mlt0 : B1 < w9.heap.size := K9_0.out.lt
          go_wp2
          clear m0_0 m0_1 m0_2 m0_3 m0_4 m0_5 mlt0
          go_ret
          exact ⟨by rw [HO.out, if_neg hh, RH.out, if_pos HKK.out, RS.out, if_pos HZ.out, R0.out]; rfl, L9.out⟩
        · have hb2 : (0 : Int) < (dl : Int) := by omega
          have m0_0 : w9.cell? ⟨B1, 0, none⟩ = some _ := K9_0.out.cell 0
          have m0_1 : w9.cell? ⟨B1, 1, none⟩ = some _ := K9_0.out.cell 1
          have m0_2 : w9.cell? ⟨B1, 2, none⟩ = some _ := K9_0.out.cell 2
          have m0_3 : w9.cell? ⟨B1, 3, none⟩ = some _ := K9_0.out.cell 3
          have m0_4 : w9.cell? ⟨B1, 4, none⟩ = some _ := K9_0.out.cell 4
          have m0_5 : w9.cell? ⟨B1, 5, none⟩ = some _ := K9_0.out.cell 5
          have mlt0 : B1 < w9.heap.size := K9_0.out.lt
          go_wp2_with fail
          clear m0_0 m0_1 m0_2 m0_3 m0_4 m0_5 mlt0
          refine (CD.out _ L9.out).mono ?_
          rintro e w10 ⟨rfl, hb⟩
          have L10 := Lib.hid (L9.out.trans (hb.mono L9.out.size))
          have K10_0 := Lib.hid (K9_0.out.below hb K9_0.out.lt)
          have K10_1 := Lib.hid (K9_1.out.below hb K9_1.out.lt)
          clear hb K9_0 K9_1
          have m0_0 : w10.cell? ⟨B1, 0, none⟩ = some _ := K10_0.out.cell 0
          have m0_1 : w10.cell? ⟨B1, 1, none⟩ = some _ := K10_0.out.cell 1
          have m0_2 : w10.cell? ⟨B1, 2, none⟩ = some _ := K10_0.out.cell 2
          have m0_3 : w10.cell? ⟨B1, 3, none⟩ = some _ := K10_0.out.cell 3
          have m0_4 : w10.cell? ⟨B1, 4, none⟩ = some _ := K10_0.out.cell 4
          have m0_5 : w10.cell? ⟨B1, 5, none⟩ = some _ := K10_0.out.cell 5
          have mlt0 : B1 < w10.heap.size := K10_0.out.lt
          go_wp2
          clear m0_0 m0_1 m0_2 m0_3 m0_4 m0_5 mlt0
          go_ret
          exact ⟨by rw [HO.out, if_neg hh, RH.out, if_pos HKK.out, RS.out, if_neg hz, RD.out]; rfl, L10.out⟩
      · have hb1 : (k == 4) = false := by simpa using hk
        by_cases hz : dl = 0
        · have hb2 : ¬ (0 : Int) < (dl : Int) := by omega
          have HZ := Lib.hid hz; clear hz
          have m0_0 : w8.cell? ⟨B1, 0, none⟩ = some _ := K8_0.out.cell 0
          have m0_1 : w8.cell? ⟨B1, 1, none⟩ = some _ := K8_0.out.cell 1
          have m0_2 : w8.cell? ⟨B1, 2, none⟩ = some _ := K8_0.out.cell 2
          have m0_3 : w8.cell? ⟨B1, 3, none⟩ = some _ := K8_0.out.cell 3
          have m0_4 : w8.cell? ⟨B1, 4, none⟩ = some _ := K8_0.out.cell 4
          have m0_5 : w8.cell? ⟨B1, 5, none⟩ = some _ := K8_0.out.cell 5
          have mlt0 : B1 < w8.heap.size := K8_0.out.lt
          go_wp2
          clear m0_0 m0_1 m0_2 m0_3 m0_4 m0_5 mlt0
          go_ret
          exact ⟨by rw [HO.out, if_neg hh, RH.out, if_neg hk, R0.out, if_pos HZ.out, R0.out]; rfl, L8.out⟩
        · have hb2 : (0 : Int) < (dl : Int) := by omega
          have m0_0 : w8.cell? ⟨B1, 0, none⟩ = some _ := K8_0.out.cell 0
          have m0_1 : w8.cell? ⟨B1, 1, none⟩ = some _ := K8_0.out.cell 1
          have m0_2 : w8.cell? ⟨B1, 2, none⟩ = some _ := K8_0.out.cell 2
          have m0_3 : w8.cell? ⟨B1, 3, none⟩ = some _ := K8_0.out.cell 3
          have m0_4 : w8.cell? ⟨B1, 4, none⟩ = some _ := K8_0.out.cell 4
          have m0_5 : w8.cell? ⟨B1, 5, none⟩ = some _ := K8_0.out.cell 5
          have mlt0 : B1 < w8.heap.size := K8_0.out.lt
          go_wp2_with fail
          clear m0_0 m0_1 m0_2 m0_3 m0_4 m0_5 mlt0
          refine (CD.out _ L8.out).mono ?_
          rintro e w11 ⟨rfl, hb⟩
          have L11 := Lib.hid (L8.out.trans (hb.mono L8.out.size))
          have K11_0 := Lib.hid (K8_0.out.below hb K8_0.out.lt)
          have K11_1 := Lib.hid (K8_1.out.below hb K8_1.out.lt)
          clear hb K8_0 K8_1
          have m0_0 : w11.cell? ⟨B1, 0, none⟩ = some _ := K11_0.out.cell 0
          have m0_1 : w11.cell? ⟨B1, 1, none⟩ = some _ := K11_0.out.cell 1
          have m0_2 : w11.cell? ⟨B1, 2, none⟩ = some _ := K11_0.out.cell 2
          have m0_3 : w11.cell? ⟨B1, 3, none⟩ = some _ := K11_0.out.cell 3
          have m0_4 : w11.cell? ⟨B1, 4, none⟩ = some _ := K11_0.out.cell 4
          have m0_5 : w11.cell? ⟨B1, 5, none⟩ = some _ := K11_0.out.cell 5
          have mlt0 : B1 < w11.heap.size := K11_0.out.lt
          go_wp2
          clear m0_0 m0_1 m0_2 m0_3 m0_4 m0_5 mlt0
          go_ret
          exact ⟨by rw [HO.out, if_neg hh, RH.out, if_neg hk, R0.out, if_neg hz, RD.out]; rfl, L11.out⟩
  · have hk3 : knd k = false := by unfold knd; exact decide_eq_false hk
    rw [HNN.out hk] at HX zN
    replace HX : Hid (X = ⟨#[63]⟩ ++ (⟨#[32, 112, 97, 103, 101, 32]⟩ ++ Pb ++ ⟨#[32, 110, 111, 100, 101, 32]⟩ ++ Qb)) := HX
    clear hk3
    by_cases hk1 : 1 ≤ k
    · have hk7 : 6 < k := by omega
      have m0_0 : W1.cell? ⟨B1, 0, none⟩ = some _ := K1_0.out.cell 0
      have m0_1 : W1.cell? ⟨B1, 1, none⟩ = some _ := K1_0.out.cell 1
      have m0_2 : W1.cell? ⟨B1, 2, none⟩ = some _ := K1_0.out.cell 2
      have m0_3 : W1.cell? ⟨B1, 3, none⟩ = some _ := K1_0.out.cell 3
      have m0_4 : W1.cell? ⟨B1, 4, none⟩ = some _ := K1_0.out.cell 4
      have m0_5 : W1.cell? ⟨B1, 5, none⟩ = some _ := K1_0.out.cell 5
      have mlt0 : B1 < W1.heap.size := K1_0.out.lt
      go_upto_region 4 with (fail)
      clear m0_0 m0_1 m0_2 m0_3 m0_4 m0_5 mlt0
      have f1 := add15 ⟨#[32, 112, 97, 103, 101, 32]⟩ Pb (by have : (ByteArray.size ⟨#[32, 112, 97, 103, 101, 32]⟩) = 6 := rfl; omega)
      have f2 := add15 (⟨#[32, 112, 97, 103, 101, 32]⟩ ++ Pb) ⟨#[32, 110, 111, 100, 101, 32]⟩ (by have : (ByteArray.size ⟨#[32, 112, 97, 103, 101, 32]⟩) = 6 := rfl; have : (ByteArray.size ⟨#[32, 110, 111, 100, 101, 32]⟩) = 6 := rfl; rw [ByteArray.size_append]; omega)
      have f3 := add15 (⟨#[32, 112, 97, 103, 101, 32]⟩ ++ Pb ++ ⟨#[32, 110, 111, 100, 101, 32]⟩) Qb (by have : (ByteArray.size ⟨#[32, 112, 97, 103, 101, 32]⟩) = 6 := rfl; have : (ByteArray.size ⟨#[32, 110, 111, 100, 101, 32]⟩) = 6 := rfl; rw [ByteArray.size_append, ByteArray.size_append]; omega)
      have f4 := add15 ⟨#[63]⟩ (⟨#[32, 112, 97, 103, 101, 32]⟩ ++ Pb ++ ⟨#[32, 110, 111, 100, 101, 32]⟩ ++ Qb) (by have : (ByteArray.size ⟨#[32, 112, 97, 103, 101, 32]⟩) = 6 := rfl; have : (ByteArray.size ⟨#[32, 110, 111, 100, 101, 32]⟩) = 6 := rfl; have : (ByteArray.size ⟨#[63]⟩) = 1 := rfl; rw [ByteArray.size_append, ByteArray.size_append, ByteArray.size_append]; omega)
      refine wp_region_held_drew (S := fun w' => Blk w' B1 [.int .i64 k, .int .i64 p, .int .i64 n, .int .i64 h, .int .u16 (s : Int), .slice A dl cap] 26) (by kernel_rfl) K1_0.out (fun hHeld => ?_)
      simp only [List.size_toArray, List.length_cons, List.length_nil, Nat.reduceAdd]
      rw [show Array.replicate 12 false = [false, false, false, false, false, false, false, false, false, false, false, false].toArray from rfl]
      refine wpAnyH_take (i := 0) (v := ?_) rfl (by kernel_rfl) (by kernel_rfl) (by kernel_rfl) (fun _ _ _ h => h) (Or.inl ⟨by rfl, ?yldq⟩) (by assumption) ?_
      case yldq => (intro w hSw; (try dsimp only at hSw); go_simp; try with_reducible rfl)
      try simp only [Act.put, List.setIfInBounds_toArray, List.set_cons_zero, List.set_cons_succ, List.getElem_toArray, List.getElem_cons_succ, List.getElem_cons_zero]
      refine wpAnyH_take (i := 1) (v := ?_) rfl (by kernel_rfl) (by kernel_rfl) (by kernel_rfl) (fun _ _ _ h => h) (Or.inl ⟨by rfl, ?yldq⟩) (by assumption) ?_
      case yldq => (intro w hSw; (try dsimp only at hSw); go_simp; try with_reducible rfl)
      try simp only [Act.put, List.setIfInBounds_toArray, List.set_cons_zero, List.set_cons_succ, List.getElem_toArray, List.getElem_cons_succ, List.getElem_cons_zero]
      refine wpAnyH_take (i := 2) (v := _) rfl (by kernel_rfl) (by kernel_rfl) (by kernel_rfl) (fun _ _ _ h => h) (Or.inl ⟨by rfl, fun w hSw => yield_i15 _ _ _ rfl rfl (hSw.cell 1)⟩) (by assumption) ?_
      try simp only [Act.put, List.setIfInBounds_toArray, List.set_cons_zero, List.set_cons_succ, List.getElem_toArray, List.getElem_cons_succ, List.getElem_cons_zero]
      refine wpAnyH_take (i := 6) (v := ?_) rfl (by kernel_rfl) (by kernel_rfl) (by kernel_rfl) (fun _ _ _ h => h) (Or.inl ⟨by rfl, ?yldq⟩) (by assumption) ?_
      case yldq => (intro w hSw; (try dsimp only at hSw); go_simp; try with_reducible rfl)
      try simp only [Act.put, List.setIfInBounds_toArray, List.set_cons_zero, List.set_cons_succ, List.getElem_toArray, List.getElem_cons_succ, List.getElem_cons_zero]
      refine wpAnyH_take (i := 7) (v := _) rfl (by kernel_rfl) (by kernel_rfl) (by kernel_rfl) (fun _ _ _ h => h) (Or.inl ⟨by rfl, fun w hSw => yield_i15 _ _ _ rfl rfl (hSw.cell 2)⟩) (by assumption) ?_
      try simp only [Act.put, List.setIfInBounds_toArray, List.set_cons_zero, List.set_cons_succ, List.getElem_toArray, List.getElem_cons_succ, List.getElem_cons_zero]
      refine wpAnyH_ready (rs := [3]) (by kernel_rfl) (by simp) ?_
      refine AllReadyH.cons rfl (fun K hK => ?_) AllReadyH.nil
      go_simp
      refine (CP.out _ (L1.out.drew)).mono ?_
      rintro e w12 ⟨rfl, hb⟩
      have L12 := Lib.hid ((L1.out.drew).trans (hb.mono L1.out.size))
      have K12_0 := Lib.hid ((Blk.drewN K1_0.out 1).below hb K1_0.out.lt)
      clear hb K1_0
      refine hK.out _ _ K12_0.out (fun hS3 => ?_)
      clear hK K
      refine wpAnyH_take (i := 4) (v := ?_) rfl (by kernel_rfl) (by kernel_rfl) (by kernel_rfl) (fun _ _ _ h => h) (Or.inl ⟨by rfl, ?yldq⟩) (by assumption) ?_
      case yldq => (intro w hSw; (try dsimp only at hSw); go_simp; try with_reducible rfl)
      try simp only [Act.put, List.setIfInBounds_toArray, List.set_cons_zero, List.set_cons_succ, List.getElem_toArray, List.getElem_cons_succ, List.getElem_cons_zero]
      refine wpAnyH_take (i := 5) (v := ?_) rfl (by kernel_rfl) (by kernel_rfl) (by kernel_rfl) (fun _ _ _ h => h) (Or.inl ⟨by rfl, ?yldq⟩) (by assumption) ?_
      case yldq => (intro w hSw; (try dsimp only at hSw); go_simp; try with_reducible rfl)
      try simp only [Act.put, List.setIfInBounds_toArray, List.set_cons_zero, List.set_cons_succ, List.getElem_toArray, List.getElem_cons_succ, List.getElem_cons_zero]
      refine wpAnyH_ready (rs := [8]) (by kernel_rfl) (by simp) ?_
      refine AllReadyH.cons rfl (fun K hK => ?_) AllReadyH.nil
      go_simp
      refine (CQ.out _ L12.out).mono ?_
      rintro e w13 ⟨rfl, hb⟩
      have L13 := Lib.hid (L12.out.trans (hb.mono L12.out.size))
      have K13_0 := Lib.hid (K12_0.out.below hb K12_0.out.lt)
      clear hb K12_0
      refine hK.out _ _ K13_0.out (fun hS8 => ?_)
      clear hK K
      refine wpAnyH_take (i := 9) (v := ?_) rfl (by kernel_rfl) (by kernel_rfl) (by kernel_rfl) (fun _ _ _ h => h) (Or.inl ⟨by rfl, ?yldq⟩) (by assumption) ?_
      case yldq => (intro w hSw; (try dsimp only at hSw); go_simp; try with_reducible rfl)
      try simp only [Act.put, List.setIfInBounds_toArray, List.set_cons_zero, List.set_cons_succ, List.getElem_toArray, List.getElem_cons_succ, List.getElem_cons_zero]
      refine wpAnyH_take (i := 10) (v := ?_) rfl (by kernel_rfl) (by kernel_rfl) (by kernel_rfl) (fun _ _ _ h => h) (Or.inl ⟨by rfl, ?yldq⟩) (by assumption) ?_
      case yldq => (intro w hSw; (try dsimp only at hSw); go_simp; try with_reducible rfl)
      try simp only [Act.put, List.setIfInBounds_toArray, List.set_cons_zero, List.set_cons_succ, List.getElem_toArray, List.getElem_cons_succ, List.getElem_cons_zero]
      refine wpAnyH_take (i := 11) (v := ?_) rfl (by kernel_rfl) (by kernel_rfl) (by kernel_rfl) (fun _ _ _ h => h) (Or.inl ⟨by rfl, ?yldq⟩) (by assumption) ?_
      case yldq => (intro w hSw; (try dsimp only at hSw); go_simp; try with_reducible rfl)
      try simp only [Act.put, List.setIfInBounds_toArray, List.set_cons_zero, List.set_cons_succ, List.getElem_toArray, List.getElem_cons_succ, List.getElem_cons_zero]
      rw [← HX.out]
      refine wpAnyH_done (by kernel_rfl) ?_ _
      go_upto_region 5 with (fail)
      by_cases hh : h = 0
      · have hb0 : (h != 0) = false := by simpa using hh
        have HH := Lib.hid hh; clear hh
        by_cases hk : k = 4
        · have hb1 : (k == 4) = true := by simpa using hk
          have HKK := Lib.hid hk; clear hk
          have m0_0 : w13.cell? ⟨B1, 0, none⟩ = some _ := K13_0.out.cell 0
          have m0_1 : w13.cell? ⟨B1, 1, none⟩ = some _ := K13_0.out.cell 1
          have m0_2 : w13.cell? ⟨B1, 2, none⟩ = some _ := K13_0.out.cell 2
          have m0_3 : w13.cell? ⟨B1, 3, none⟩ = some _ := K13_0.out.cell 3
          have m0_4 : w13.cell? ⟨B1, 4, none⟩ = some _ := K13_0.out.cell 4
          have m0_5 : w13.cell? ⟨B1, 5, none⟩ = some _ := K13_0.out.cell 5
          have mlt0 : B1 < w13.heap.size := K13_0.out.lt
          go_wp2_with fail
          clear m0_0 m0_1 m0_2 m0_3 m0_4 m0_5 mlt0
          refine (CS.out _ L13.out).mono ?_
          rintro e w14 ⟨rfl, hb⟩
          have L14 := Lib.hid (L13.out.trans (hb.mono L13.out.size))
          have K14_0 := Lib.hid (K13_0.out.below hb K13_0.out.lt)
          clear hb K13_0
          by_cases hz : dl = 0
          · have hb2 : ¬ (0 : Int) < (dl : Int) := by omega
            have HZ := Lib.hid hz; clear hz
            have m0_0 : w14.cell? ⟨B1, 0, none⟩ = some _ := K14_0.out.cell 0
            have m0_1 : w14.cell? ⟨B1, 1, none⟩ = some _ := K14_0.out.cell 1
            have m0_2 : w14.cell? ⟨B1, 2, none⟩ = some _ := K14_0.out.cell 2
            have m0_3 : w14.cell? ⟨B1, 3, none⟩ = some _ := K14_0.out.cell 3
            have m0_4 : w14.cell? ⟨B1, 4, none⟩ = some _ := K14_0.out.cell 4
            have m0_5 : w14.cell? ⟨B1, 5, none⟩ = some _ := K14_0.out.cell 5
            have mlt0 : B1 < w14.heap.size := K14_0.out.lt
            go_wp2
            clear m0_0 m0_1 m0_2 m0_3 m0_4 m0_5 mlt0
            go_ret
            exact ⟨by rw [HO.out, if_pos HH.out, R0.out, if_pos HKK.out, RS.out, if_pos HZ.out, R0.out]; rfl, L14.out⟩
          · have hb2 : (0 : Int) < (dl : Int) := by omega
            have m0_0 : w14.cell? ⟨B1, 0, none⟩ = some _ := K14_0.out.cell 0
            have m0_1 : w14.cell? ⟨B1, 1, none⟩ = some _ := K14_0.out.cell 1
            have m0_2 : w14.cell? ⟨B1, 2, none⟩ = some _ := K14_0.out.cell 2
            have m0_3 : w14.cell? ⟨B1, 3, none⟩ = some _ := K14_0.out.cell 3
            have m0_4 : w14.cell? ⟨B1, 4, none⟩ = some _ := K14_0.out.cell 4
            have m0_5 : w14.cell? ⟨B1, 5, none⟩ = some _ := K14_0.out.cell 5
            have mlt0 : B1 < w14.heap.size := K14_0.out.lt
            go_wp2_with fail
            clear m0_0 m0_1 m0_2 m0_3 m0_4 m0_5 mlt0
            refine (CD.out _ L14.out).mono ?_
            rintro e w15 ⟨rfl, hb⟩
            have L15 := Lib.hid (L14.out.trans (hb.mono L14.out.size))
            have K15_0 := Lib.hid (K14_0.out.below hb K14_0.out.lt)
            clear hb K14_0
            have m0_0 : w15.cell? ⟨B1, 0, none⟩ = some _ := K15_0.out.cell 0
            have m0_1 : w15.cell? ⟨B1, 1, none⟩ = some _ := K15_0.out.cell 1
            have m0_2 : w15.cell? ⟨B1, 2, none⟩ = some _ := K15_0.out.cell 2
            have m0_3 : w15.cell? ⟨B1, 3, none⟩ = some _ := K15_0.out.cell 3
            have m0_4 : w15.cell? ⟨B1, 4, none⟩ = some _ := K15_0.out.cell 4
            have m0_5 : w15.cell? ⟨B1, 5, none⟩ = some _ := K15_0.out.cell 5
            have mlt0 : B1 < w15.heap.size := K15_0.out.lt
            go_wp2
            clear m0_0 m0_1 m0_2 m0_3 m0_4 m0_5 mlt0
            go_ret
            exact ⟨by rw [HO.out, if_pos HH.out, R0.out, if_pos HKK.out, RS.out, if_neg hz, RD.out]; rfl, L15.out⟩
        · have hb1 : (k == 4) = false := by simpa using hk
          by_cases hz : dl = 0
          · have hb2 : ¬ (0 : Int) < (dl : Int) := by omega
            have HZ := Lib.hid hz; clear hz
            have m0_0 : w13.cell? ⟨B1, 0, none⟩ = some _ := K13_0.out.cell 0
            have m0_1 : w13.cell? ⟨B1, 1, none⟩ = some _ := K13_0.out.cell 1
            have m0_2 : w13.cell? ⟨B1, 2, none⟩ = some _ := K13_0.out.cell 2
            have m0_3 : w13.cell? ⟨B1, 3, none⟩ = some _ := K13_0.out.cell 3
            have m0_4 : w13.cell? ⟨B1, 4, none⟩ = some _ := K13_0.out.cell 4
            have m0_5 : w13.cell? ⟨B1, 5, none⟩ = some _ := K13_0.out.cell 5
            have mlt0 : B1 < w13.heap.size := K13_0.out.lt
            go_wp2
            clear m0_0 m0_1 m0_2 m0_3 m0_4 m0_5 mlt0
            go_ret
            exact ⟨by rw [HO.out, if_pos HH.out, R0.out, if_neg hk, R0.out, if_pos HZ.out, R0.out]; rfl, L13.out⟩
          · have hb2 : (0 : Int) < (dl : Int) := by omega
            have m0_0 : w13.cell? ⟨B1, 0, none⟩ = some _ := K13_0.out.cell 0
            have m0_1 : w13.cell? ⟨B1, 1, none⟩ = some _ := K13_0.out.cell 1
            have m0_2 : w13.cell? ⟨B1, 2, none⟩ = some _ := K13_0.out.cell 2
            have m0_3 : w13.cell? ⟨B1, 3, none⟩ = some _ := K13_0.out.cell 3
            have m0_4 : w13.cell? ⟨B1, 4, none⟩ = some _ := K13_0.out.cell 4
            have m0_5 : w13.cell? ⟨B1, 5, none⟩ = some _ := K13_0.out.cell 5
            have mlt0 : B1 < w13.heap.size := K13_0.out.lt
            go_wp2_with fail
            clear m0_0 m0_1 m0_2 m0_3 m0_4 m0_5 mlt0
            refine (CD.out _ L13.out).mono ?_
            rintro e w16 ⟨rfl, hb⟩
            have L16 := Lib.hid (L13.out.trans (hb.mono L13.out.size))
            have K16_0 := Lib.hid (K13_0.out.below hb K13_0.out.lt)
            clear hb K13_0
            have m0_0 : w16.cell? ⟨B1, 0, none⟩ = some _ := K16_0.out.cell 0
            have m0_1 : w16.cell? ⟨B1, 1, none⟩ = some _ := K16_0.out.cell 1
            have m0_2 : w16.cell? ⟨B1, 2, none⟩ = some _ := K16_0.out.cell 2
            have m0_3 : w16.cell? ⟨B1, 3, none⟩ = some _ := K16_0.out.cell 3
            have m0_4 : w16.cell? ⟨B1, 4, none⟩ = some _ := K16_0.out.cell 4
            have m0_5 : w16.cell? ⟨B1, 5, none⟩ = some _ := K16_0.out.cell 5
            have mlt0 : B1 < w16.heap.size := K16_0.out.lt
            go_wp2
            clear m0_0 m0_1 m0_2 m0_3 m0_4 m0_5 mlt0
            go_ret
            exact ⟨by rw [HO.out, if_pos HH.out, R0.out, if_neg hk, R0.out, if_neg hz, RD.out]; rfl, L16.out⟩
      · have hb0 : (h != 0) = true := by simpa using hh
        have m0_0 : w13.cell? ⟨B1, 0, none⟩ = some _ := K13_0.out.cell 0
        have m0_1 : w13.cell? ⟨B1, 1, none⟩ = some _ := K13_0.out.cell 1
        have m0_2 : w13.cell? ⟨B1, 2, none⟩ = some _ := K13_0.out.cell 2
        have m0_3 : w13.cell? ⟨B1, 3, none⟩ = some _ := K13_0.out.cell 3
        have m0_4 : w13.cell? ⟨B1, 4, none⟩ = some _ := K13_0.out.cell 4
        have m0_5 : w13.cell? ⟨B1, 5, none⟩ = some _ := K13_0.out.cell 5
        have mlt0 : B1 < w13.heap.size := K13_0.out.lt
        go_wp2_with fail
        clear m0_0 m0_1 m0_2 m0_3 m0_4 m0_5 mlt0
        refine (CH.out _ L13.out).mono ?_
        rintro e w17 ⟨rfl, hb⟩
        have L17 := Lib.hid (L13.out.trans (hb.mono L13.out.size))
        have K17_0 := Lib.hid (K13_0.out.below hb K13_0.out.lt)
        clear hb K13_0
        by_cases hk : k = 4
        · have hb1 : (k == 4) = true := by simpa using hk
          have HKK := Lib.hid hk; clear hk
          have m0_0 : w17.cell? ⟨B1, 0, none⟩ = some _ := K17_0.out.cell 0
          have m0_1 : w17.cell? ⟨B1, 1, none⟩ = some _ := K17_0.out.cell 1
          have m0_2 : w17.cell? ⟨B1, 2, none⟩ = some _ := K17_0.out.cell 2
          have m0_3 : w17.cell? ⟨B1, 3, none⟩ = some _ := K17_0.out.cell 3
          have m0_4 : w17.cell? ⟨B1, 4, none⟩ = some _ := K17_0.out.cell 4
          have m0_5 : w17.cell? ⟨B1, 5, none⟩ = some _ := K17_0.out.cell 5
          have mlt0 : B1 < w17.heap.size := K17_0.out.lt
          go_wp2_with fail
          clear m0_0 m0_1 m0_2 m0_3 m0_4 m0_5 mlt0
          refine (CS.out _ L17.out).mono ?_
          rintro e w18 ⟨rfl, hb⟩
          have L18 := Lib.hid (L17.out.trans (hb.mono L17.out.size))
          have K18_0 := Lib.hid (K17_0.out.below hb K17_0.out.lt)
          clear hb K17_0
          by_cases hz : dl = 0
          · have hb2 : ¬ (0 : Int) < (dl : Int) := by omega
            have HZ := Lib.hid hz; clear hz
            have m0_0 : w18.cell? ⟨B1, 0, none⟩ = some _ := K18_0.out.cell 0
            have m0_1 : w18.cell? ⟨B1, 1, none⟩ = some _ := K18_0.out.cell 1
            have m0_2 : w18.cell? ⟨B1, 2, none⟩ = some _ := K18_0.out.cell 2
            have m0_3 : w18.cell? ⟨B1, 3, none⟩ = some _ := K18_0.out.cell 3
            have m0_4 : w18.cell? ⟨B1, 4, none⟩ = some _ := K18_0.out.cell 4
            have m0_5 : w18.cell? ⟨B1, 5, none⟩ = some _ := K18_0.out.cell 5
            have mlt0 : B1 < w18.heap.size := K18_0.out.lt
            go_wp2
            clear m0_0 m0_1 m0_2 m0_3 m0_4 m0_5 mlt0
            go_ret
            exact ⟨by rw [HO.out, if_neg hh, RH.out, if_pos HKK.out, RS.out, if_pos HZ.out, R0.out]; rfl, L18.out⟩
          · have hb2 : (0 : Int) < (dl : Int) := by omega
            have m0_0 : w18.cell? ⟨B1, 0, none⟩ = some _ := K18_0.out.cell 0
            have m0_1 : w18.cell? ⟨B1, 1, none⟩ = some _ := K18_0.out.cell 1
            have m0_2 : w18.cell? ⟨B1, 2, none⟩ = some _ := K18_0.out.cell 2
            have m0_3 : w18.cell? ⟨B1, 3, none⟩ = some _ := K18_0.out.cell 3
            have m0_4 : w18.cell? ⟨B1, 4, none⟩ = some _ := K18_0.out.cell 4
            have m0_5 : w18.cell? ⟨B1, 5, none⟩ = some _ := K18_0.out.cell 5
            have mlt0 : B1 < w18.heap.size := K18_0.out.lt
            go_wp2_with fail
            clear m0_0 m0_1 m0_2 m0_3 m0_4 m0_5 mlt0
            refine (CD.out _ L18.out).mono ?_
            rintro e w19 ⟨rfl, hb⟩
            have L19 := Lib.hid (L18.out.trans (hb.mono L18.out.size))
            have K19_0 := Lib.hid (K18_0.out.below hb K18_0.out.lt)
            clear hb K18_0
            have m0_0 : w19.cell? ⟨B1, 0, none⟩ = some _ := K19_0.out.cell 0
            have m0_1 : w19.cell? ⟨B1, 1, none⟩ = some _ := K19_0.out.cell 1
            have m0_2 : w19.cell? ⟨B1, 2, none⟩ = some _ := K19_0.out.cell 2
            have m0_3 : w19.cell? ⟨B1, 3, none⟩ = some _ := K19_0.out.cell 3
            have m0_4 : w19.cell? ⟨B1, 4, none⟩ = some _ := K19_0.out.cell 4
            have m0_5 : w19.cell? ⟨B1, 5, none⟩ = some _ := K19_0.out.cell 5
            have mlt0 : B1 < w19.heap.size := K19_0.out.lt
            go_wp2
            clear m0_0 m0_1 m0_2 m0_3 m0_4 m0_5 mlt0
            go_ret
            exact ⟨by rw [HO.out, if_neg hh, RH.out, if_pos HKK.out, RS.out, if_neg hz, RD.out]; rfl, L19.out⟩
        · have hb1 : (k == 4) = false := by simpa using hk
          by_cases hz : dl = 0
          · have hb2 : ¬ (0 : Int) < (dl : Int) := by omega
            have HZ := Lib.hid hz; clear hz
            have m0_0 : w17.cell? ⟨B1, 0, none⟩ = some _ := K17_0.out.cell 0
            have m0_1 : w17.cell? ⟨B1, 1, none⟩ = some _ := K17_0.out.cell 1
            have m0_2 : w17.cell? ⟨B1, 2, none⟩ = some _ := K17_0.out.cell 2
            have m0_3 : w17.cell? ⟨B1, 3, none⟩ = some _ := K17_0.out.cell 3
            have m0_4 : w17.cell? ⟨B1, 4, none⟩ = some _ := K17_0.out.cell 4
            have m0_5 : w17.cell? ⟨B1, 5, none⟩ = some _ := K17_0.out.cell 5
            have mlt0 : B1 < w17.heap.size := K17_0.out.lt
            go_wp2
            clear m0_0 m0_1 m0_2 m0_3 m0_4 m0_5 mlt0
            go_ret
            exact ⟨by rw [HO.out, if_neg hh, RH.out, if_neg hk, R0.out, if_pos HZ.out, R0.out]; rfl, L17.out⟩
          · have hb2 : (0 : Int) < (dl : Int) := by omega
            have m0_0 : w17.cell? ⟨B1, 0, none⟩ = some _ := K17_0.out.cell 0
            have m0_1 : w17.cell? ⟨B1, 1, none⟩ = some _ := K17_0.out.cell 1
            have m0_2 : w17.cell? ⟨B1, 2, none⟩ = some _ := K17_0.out.cell 2
            have m0_3 : w17.cell? ⟨B1, 3, none⟩ = some _ := K17_0.out.cell 3
            have m0_4 : w17.cell? ⟨B1, 4, none⟩ = some _ := K17_0.out.cell 4
            have m0_5 : w17.cell? ⟨B1, 5, none⟩ = some _ := K17_0.out.cell 5
            have mlt0 : B1 < w17.heap.size := K17_0.out.lt
            go_wp2_with fail
            clear m0_0 m0_1 m0_2 m0_3 m0_4 m0_5 mlt0
            refine (CD.out _ L17.out).mono ?_
            rintro e w20 ⟨rfl, hb⟩
            have L20 := Lib.hid (L17.out.trans (hb.mono L17.out.size))
            have K20_0 := Lib.hid (K17_0.out.below hb K17_0.out.lt)
            clear hb K17_0
            have m0_0 : w20.cell? ⟨B1, 0, none⟩ = some _ := K20_0.out.cell 0
            have m0_1 : w20.cell? ⟨B1, 1, none⟩ = some _ := K20_0.out.cell 1
            have m0_2 : w20.cell? ⟨B1, 2, none⟩ = some _ := K20_0.out.cell 2
            have m0_3 : w20.cell? ⟨B1, 3, none⟩ = some _ := K20_0.out.cell 3
            have m0_4 : w20.cell? ⟨B1, 4, none⟩ = some _ := K20_0.out.cell 4
            have m0_5 : w20.cell? ⟨B1, 5, none⟩ = some _ := K20_0.out.cell 5
            have mlt0 : B1 < w20.heap.size := K20_0.out.lt
            go_wp2
            clear m0_0 m0_1 m0_2 m0_3 m0_4 m0_5 mlt0
            go_ret
            exact ⟨by rw [HO.out, if_neg hh, RH.out, if_neg hk, R0.out, if_neg hz, RD.out]; rfl, L20.out⟩
    · have hk7 : k < 1 := by omega
      have m0_0 : W1.cell? ⟨B1, 0, none⟩ = some _ := K1_0.out.cell 0
      have m0_1 : W1.cell? ⟨B1, 1, none⟩ = some _ := K1_0.out.cell 1
      have m0_2 : W1.cell? ⟨B1, 2, none⟩ = some _ := K1_0.out.cell 2
      have m0_3 : W1.cell? ⟨B1, 3, none⟩ = some _ := K1_0.out.cell 3
      have m0_4 : W1.cell? ⟨B1, 4, none⟩ = some _ := K1_0.out.cell 4
      have m0_5 : W1.cell? ⟨B1, 5, none⟩ = some _ := K1_0.out.cell 5
      have mlt0 : B1 < W1.heap.size := K1_0.out.lt
      go_upto_region 4 with (fail)
      clear m0_0 m0_1 m0_2 m0_3 m0_4 m0_5 mlt0
      have f1 := add15 ⟨#[32, 112, 97, 103, 101, 32]⟩ Pb (by have : (ByteArray.size ⟨#[32, 112, 97, 103, 101, 32]⟩) = 6 := rfl; omega)
      have f2 := add15 (⟨#[32, 112, 97, 103, 101, 32]⟩ ++ Pb) ⟨#[32, 110, 111, 100, 101, 32]⟩ (by have : (ByteArray.size ⟨#[32, 112, 97, 103, 101, 32]⟩) = 6 := rfl; have : (ByteArray.size ⟨#[32, 110, 111, 100, 101, 32]⟩) = 6 := rfl; rw [ByteArray.size_append]; omega)
      have f3 := add15 (⟨#[32, 112, 97, 103, 101, 32]⟩ ++ Pb ++ ⟨#[32, 110, 111, 100, 101, 32]⟩) Qb (by have : (ByteArray.size ⟨#[32, 112, 97, 103, 101, 32]⟩) = 6 := rfl; have : (ByteArray.size ⟨#[32, 110, 111, 100, 101, 32]⟩) = 6 := rfl; rw [ByteArray.size_append, ByteArray.size_append]; omega)
      have f4 := add15 ⟨#[63]⟩ (⟨#[32, 112, 97, 103, 101, 32]⟩ ++ Pb ++ ⟨#[32, 110, 111, 100, 101, 32]⟩ ++ Qb) (by have : (ByteArray.size ⟨#[32, 112, 97, 103, 101, 32]⟩) = 6 := rfl; have : (ByteArray.size ⟨#[32, 110, 111, 100, 101, 32]⟩) = 6 := rfl; have : (ByteArray.size ⟨#[63]⟩) = 1 := rfl; rw [ByteArray.size_append, ByteArray.size_append, ByteArray.size_append]; omega)
      refine wp_region_held_drew (S := fun w' => Blk w' B1 [.int .i64 k, .int .i64 p, .int .i64 n, .int .i64 h, .int .u16 (s : Int), .slice A dl cap] 26) (by kernel_rfl) K1_0.out (fun hHeld => ?_)
      simp only [List.size_toArray, List.length_cons, List.length_nil, Nat.reduceAdd]
      rw [show Array.replicate 12 false = [false, false, false, false, false, false, false, false, false, false, false, false].toArray from rfl]
      refine wpAnyH_take (i := 0) (v := ?_) rfl (by kernel_rfl) (by kernel_rfl) (by kernel_rfl) (fun _ _ _ h => h) (Or.inl ⟨by rfl, ?yldq⟩) (by assumption) ?_
      case yldq => (intro w hSw; (try dsimp only at hSw); go_simp; try with_reducible rfl)
      try simp only [Act.put, List.setIfInBounds_toArray, List.set_cons_zero, List.set_cons_succ, List.getElem_toArray, List.getElem_cons_succ, List.getElem_cons_zero]
      refine wpAnyH_take (i := 1) (v := ?_) rfl (by kernel_rfl) (by kernel_rfl) (by kernel_rfl) (fun _ _ _ h => h) (Or.inl ⟨by rfl, ?yldq⟩) (by assumption) ?_
      case yldq => (intro w hSw; (try dsimp only at hSw); go_simp; try with_reducible rfl)
      try simp only [Act.put, List.setIfInBounds_toArray, List.set_cons_zero, List.set_cons_succ, List.getElem_toArray, List.getElem_cons_succ, List.getElem_cons_zero]
      refine wpAnyH_take (i := 2) (v := _) rfl (by kernel_rfl) (by kernel_rfl) (by kernel_rfl) (fun _ _ _ h => h) (Or.inl ⟨by rfl, fun w hSw => yield_i15 _ _ _ rfl rfl (hSw.cell 1)⟩) (by assumption) ?_
      try simp only [Act.put, List.setIfInBounds_toArray, List.set_cons_zero, List.set_cons_succ, List.getElem_toArray, List.getElem_cons_succ, List.getElem_cons_zero]
      refine wpAnyH_take (i := 6) (v := ?_) rfl (by kernel_rfl) (by kernel_rfl) (by kernel_rfl) (fun _ _ _ h => h) (Or.inl ⟨by rfl, ?yldq⟩) (by assumption) ?_
      case yldq => (intro w hSw; (try dsimp only at hSw); go_simp; try with_reducible rfl)
      try simp only [Act.put, List.setIfInBounds_toArray, List.set_cons_zero, List.set_cons_succ, List.getElem_toArray, List.getElem_cons_succ, List.getElem_cons_zero]
      refine wpAnyH_take (i := 7) (v := _) rfl (by kernel_rfl) (by kernel_rfl) (by kernel_rfl) (fun _ _ _ h => h) (Or.inl ⟨by rfl, fun w hSw => yield_i15 _ _ _ rfl rfl (hSw.cell 2)⟩) (by assumption) ?_
      try simp only [Act.put, List.setIfInBounds_toArray, List.set_cons_zero, List.set_cons_succ, List.getElem_toArray, List.getElem_cons_succ, List.getElem_cons_zero]
      refine wpAnyH_ready (rs := [3]) (by kernel_rfl) (by simp) ?_
      refine AllReadyH.cons rfl (fun K hK => ?_) AllReadyH.nil
      go_simp
      refine (CP.out _ (L1.out.drew)).mono ?_
      rintro e w21 ⟨rfl, hb⟩
      have L21 := Lib.hid ((L1.out.drew).trans (hb.mono L1.out.size))
      have K21_0 := Lib.hid ((Blk.drewN K1_0.out 1).below hb K1_0.out.lt)
      clear hb K1_0
      refine hK.out _ _ K21_0.out (fun hS3 => ?_)
      clear hK K
      refine wpAnyH_take (i := 4) (v := ?_) rfl (by kernel_rfl) (by kernel_rfl) (by kernel_rfl) (fun _ _ _ h => h) (Or.inl ⟨by rfl, ?yldq⟩) (by assumption) ?_
      case yldq => (intro w hSw; (try dsimp only at hSw); go_simp; try with_reducible rfl)
      try simp only [Act.put, List.setIfInBounds_toArray, List.set_cons_zero, List.set_cons_succ, List.getElem_toArray, List.getElem_cons_succ, List.getElem_cons_zero]
      refine wpAnyH_take (i := 5) (v := ?_) rfl (by kernel_rfl) (by kernel_rfl) (by kernel_rfl) (fun _ _ _ h => h) (Or.inl ⟨by rfl, ?yldq⟩) (by assumption) ?_
      case yldq => (intro w hSw; (try dsimp only at hSw); go_simp; try with_reducible rfl)
      try simp only [Act.put, List.setIfInBounds_toArray, List.set_cons_zero, List.set_cons_succ, List.getElem_toArray, List.getElem_cons_succ, List.getElem_cons_zero]
      refine wpAnyH_ready (rs := [8]) (by kernel_rfl) (by simp) ?_
      refine AllReadyH.cons rfl (fun K hK => ?_) AllReadyH.nil
      go_simp
      refine (CQ.out _ L21.out).mono ?_
      rintro e w22 ⟨rfl, hb⟩
      have L22 := Lib.hid (L21.out.trans (hb.mono L21.out.size))
      have K22_0 := Lib.hid (K21_0.out.below hb K21_0.out.lt)
      clear hb K21_0
      refine hK.out _ _ K22_0.out (fun hS8 => ?_)
      clear hK K
      refine wpAnyH_take (i := 9) (v := ?_) rfl (by kernel_rfl) (by kernel_rfl) (by kernel_rfl) (fun _ _ _ h => h) (Or.inl ⟨by rfl, ?yldq⟩) (by assumption) ?_
      case yldq => (intro w hSw; (try dsimp only at hSw); go_simp; try with_reducible rfl)
      try simp only [Act.put, List.setIfInBounds_toArray, List.set_cons_zero, List.set_cons_succ, List.getElem_toArray, List.getElem_cons_succ, List.getElem_cons_zero]
      refine wpAnyH_take (i := 10) (v := ?_) rfl (by kernel_rfl) (by kernel_rfl) (by kernel_rfl) (fun _ _ _ h => h) (Or.inl ⟨by rfl, ?yldq⟩) (by assumption) ?_
      case yldq => (intro w hSw; (try dsimp only at hSw); go_simp; try with_reducible rfl)
      try simp only [Act.put, List.setIfInBounds_toArray, List.set_cons_zero, List.set_cons_succ, List.getElem_toArray, List.getElem_cons_succ, List.getElem_cons_zero]
      refine wpAnyH_take (i := 11) (v := ?_) rfl (by kernel_rfl) (by kernel_rfl) (by kernel_rfl) (fun _ _ _ h => h) (Or.inl ⟨by rfl, ?yldq⟩) (by assumption) ?_
      case yldq => (intro w hSw; (try dsimp only at hSw); go_simp; try with_reducible rfl)
      try simp only [Act.put, List.setIfInBounds_toArray, List.set_cons_zero, List.set_cons_succ, List.getElem_toArray, List.getElem_cons_succ, List.getElem_cons_zero]
      rw [← HX.out]
      refine wpAnyH_done (by kernel_rfl) ?_ _
      go_upto_region 5 with (fail)
      by_cases hh : h = 0
      · have hb0 : (h != 0) = false := by simpa using hh
        have HH := Lib.hid hh; clear hh
        by_cases hk : k = 4
        · have hb1 : (k == 4) = true := by simpa using hk
          have HKK := Lib.hid hk; clear hk
          have m0_0 : w22.cell? ⟨B1, 0, none⟩ = some _ := K22_0.out.cell 0
          have m0_1 : w22.cell? ⟨B1, 1, none⟩ = some _ := K22_0.out.cell 1
          have m0_2 : w22.cell? ⟨B1, 2, none⟩ = some _ := K22_0.out.cell 2
          have m0_3 : w22.cell? ⟨B1, 3, none⟩ = some _ := K22_0.out.cell 3
          have m0_4 : w22.cell? ⟨B1, 4, none⟩ = some _ := K22_0.out.cell 4
          have m0_5 : w22.cell? ⟨B1, 5, none⟩ = some _ := K22_0.out.cell 5
          have mlt0 : B1 < w22.heap.size := K22_0.out.lt
          go_wp2_with fail
          clear m0_0 m0_1 m0_2 m0_3 m0_4 m0_5 mlt0
          refine (CS.out _ L22.out).mono ?_
          rintro e w23 ⟨rfl, hb⟩
          have L23 := Lib.hid (L22.out.trans (hb.mono L22.out.size))
          have K23_0 := Lib.hid (K22_0.out.below hb K22_0.out.lt)
          clear hb K22_0
          by_cases hz : dl = 0
          · have hb2 : ¬ (0 : Int) < (dl : Int) := by omega
            have HZ := Lib.hid hz; clear hz
            have m0_0 : w23.cell? ⟨B1, 0, none⟩ = some _ := K23_0.out.cell 0
            have m0_1 : w23.cell? ⟨B1, 1, none⟩ = some _ := K23_0.out.cell 1
            have m0_2 : w23.cell? ⟨B1, 2, none⟩ = some _ := K23_0.out.cell 2
            have m0_3 : w23.cell? ⟨B1, 3, none⟩ = some _ := K23_0.out.cell 3
            have m0_4 : w23.cell? ⟨B1, 4, none⟩ = some _ := K23_0.out.cell 4
            have m0_5 : w23.cell? ⟨B1, 5, none⟩ = some _ := K23_0.out.cell 5
            have mlt0 : B1 < w23.heap.size := K23_0.out.lt
            go_wp2
            clear m0_0 m0_1 m0_2 m0_3 m0_4 m0_5 mlt0
            go_ret
            exact ⟨by rw [HO.out, if_pos HH.out, R0.out, if_pos HKK.out, RS.out, if_pos HZ.out, R0.out]; rfl, L23.out⟩
          · have hb2 : (0 : Int) < (dl : Int) := by omega
            have m0_0 : w23.cell? ⟨B1, 0, none⟩ = some _ := K23_0.out.cell 0
            have m0_1 : w23.cell? ⟨B1, 1, none⟩ = some _ := K23_0.out.cell 1
            have m0_2 : w23.cell? ⟨B1, 2, none⟩ = some _ := K23_0.out.cell 2
            have m0_3 : w23.cell? ⟨B1, 3, none⟩ = some _ := K23_0.out.cell 3
            have m0_4 : w23.cell? ⟨B1, 4, none⟩ = some _ := K23_0.out.cell 4
            have m0_5 : w23.cell? ⟨B1, 5, none⟩ = some _ := K23_0.out.cell 5
            have mlt0 : B1 < w23.heap.size := K23_0.out.lt
            go_wp2_with fail
            clear m0_0 m0_1 m0_2 m0_3 m0_4 m0_5 mlt0
            refine (CD.out _ L23.out).mono ?_
            rintro e w24 ⟨rfl, hb⟩
            have L24 := Lib.hid (L23.out.trans (hb.mono L23.out.size))
            have K24_0 := Lib.hid (K23_0.out.below hb K23_0.out.lt)
            clear hb K23_0
            have m0_0 : w24.cell? ⟨B1, 0, none⟩ = some _ := K24_0.out.cell 0
            have m0_1 : w24.cell? ⟨B1, 1, none⟩ = some _ := K24_0.out.cell 1
            have m0_2 : w24.cell? ⟨B1, 2, none⟩ = some _ := K24_0.out.cell 2
            have m0_3 : w24.cell? ⟨B1, 3, none⟩ = some _ := K24_0.out.cell 3
            have m0_4 : w24.cell? ⟨B1, 4, none⟩ = some _ := K24_0.out.cell 4
            have m0_5 : w24.cell? ⟨B1, 5, none⟩ = some _ := K24_0.out.cell 5
            have mlt0 : B1 < w24.heap.size := K24_0.out.lt
            go_wp2
            clear m0_0 m0_1 m0_2 m0_3 m0_4 m0_5 mlt0
            go_ret
            exact ⟨by rw [HO.out, if_pos HH.out, R0.out, if_pos HKK.out, RS.out, if_neg hz, RD.out]; rfl, L24.out⟩
        · have hb1 : (k == 4) = false := by simpa using hk
          by_cases hz : dl = 0
          · have hb2 : ¬ (0 : Int) < (dl : Int) := by omega
            have HZ := Lib.hid hz; clear hz
            have m0_0 : w22.cell? ⟨B1, 0, none⟩ = some _ := K22_0.out.cell 0
            have m0_1 : w22.cell? ⟨B1, 1, none⟩ = some _ := K22_0.out.cell 1
            have m0_2 : w22.cell? ⟨B1, 2, none⟩ = some _ := K22_0.out.cell 2
            have m0_3 : w22.cell? ⟨B1, 3, none⟩ = some _ := K22_0.out.cell 3
            have m0_4 : w22.cell? ⟨B1, 4, none⟩ = some _ := K22_0.out.cell 4
            have m0_5 : w22.cell? ⟨B1, 5, none⟩ = some _ := K22_0.out.cell 5
            have mlt0 : B1 < w22.heap.size := K22_0.out.lt
            go_wp2
            clear m0_0 m0_1 m0_2 m0_3 m0_4 m0_5 mlt0
            go_ret
            exact ⟨by rw [HO.out, if_pos HH.out, R0.out, if_neg hk, R0.out, if_pos HZ.out, R0.out]; rfl, L22.out⟩
          · have hb2 : (0 : Int) < (dl : Int) := by omega
            have m0_0 : w22.cell? ⟨B1, 0, none⟩ = some _ := K22_0.out.cell 0
            have m0_1 : w22.cell? ⟨B1, 1, none⟩ = some _ := K22_0.out.cell 1
            have m0_2 : w22.cell? ⟨B1, 2, none⟩ = some _ := K22_0.out.cell 2
            have m0_3 : w22.cell? ⟨B1, 3, none⟩ = some _ := K22_0.out.cell 3
            have m0_4 : w22.cell? ⟨B1, 4, none⟩ = some _ := K22_0.out.cell 4
            have m0_5 : w22.cell? ⟨B1, 5, none⟩ = some _ := K22_0.out.cell 5
            have mlt0 : B1 < w22.heap.size := K22_0.out.lt
            go_wp2_with fail
            clear m0_0 m0_1 m0_2 m0_3 m0_4 m0_5 mlt0
            refine (CD.out _ L22.out).mono ?_
            rintro e w25 ⟨rfl, hb⟩
            have L25 := Lib.hid (L22.out.trans (hb.mono L22.out.size))
            have K25_0 := Lib.hid (K22_0.out.below hb K22_0.out.lt)
            clear hb K22_0
            have m0_0 : w25.cell? ⟨B1, 0, none⟩ = some _ := K25_0.out.cell 0
            have m0_1 : w25.cell? ⟨B1, 1, none⟩ = some _ := K25_0.out.cell 1
            have m0_2 : w25.cell? ⟨B1, 2, none⟩ = some _ := K25_0.out.cell 2
            have m0_3 : w25.cell? ⟨B1, 3, none⟩ = some _ := K25_0.out.cell 3
            have m0_4 : w25.cell? ⟨B1, 4, none⟩ = some _ := K25_0.out.cell 4
            have m0_5 : w25.cell? ⟨B1, 5, none⟩ = some _ := K25_0.out.cell 5
            have mlt0 : B1 < w25.heap.size := K25_0.out.lt
            go_wp2
            clear m0_0 m0_1 m0_2 m0_3 m0_4 m0_5 mlt0
            go_ret
            exact ⟨by rw [HO.out, if_pos HH.out, R0.out, if_neg hk, R0.out, if_neg hz, RD.out]; rfl, L25.out⟩
      · have hb0 : (h != 0) = true := by simpa using hh
        have m0_0 : w22.cell? ⟨B1, 0, none⟩ = some _ := K22_0.out.cell 0
        have m0_1 : w22.cell? ⟨B1, 1, none⟩ = some _ := K22_0.out.cell 1
        have m0_2 : w22.cell? ⟨B1, 2, none⟩ = some _ := K22_0.out.cell 2
        have m0_3 : w22.cell? ⟨B1, 3, none⟩ = some _ := K22_0.out.cell 3
        have m0_4 : w22.cell? ⟨B1, 4, none⟩ = some _ := K22_0.out.cell 4
        have m0_5 : w22.cell? ⟨B1, 5, none⟩ = some _ := K22_0.out.cell 5
        have mlt0 : B1 < w22.heap.size := K22_0.out.lt
        go_wp2_with fail
        clear m0_0 m0_1 m0_2 m0_3 m0_4 m0_5 mlt0
        refine (CH.out _ L22.out).mono ?_
        rintro e w26 ⟨rfl, hb⟩
        have L26 := Lib.hid (L22.out.trans (hb.mono L22.out.size))
        have K26_0 := Lib.hid (K22_0.out.below hb K22_0.out.lt)
        clear hb K22_0
        by_cases hk : k = 4
        · have hb1 : (k == 4) = true := by simpa using hk
          have HKK := Lib.hid hk; clear hk
          have m0_0 : w26.cell? ⟨B1, 0, none⟩ = some _ := K26_0.out.cell 0
          have m0_1 : w26.cell? ⟨B1, 1, none⟩ = some _ := K26_0.out.cell 1
          have m0_2 : w26.cell? ⟨B1, 2, none⟩ = some _ := K26_0.out.cell 2
          have m0_3 : w26.cell? ⟨B1, 3, none⟩ = some _ := K26_0.out.cell 3
          have m0_4 : w26.cell? ⟨B1, 4, none⟩ = some _ := K26_0.out.cell 4
          have m0_5 : w26.cell? ⟨B1, 5, none⟩ = some _ := K26_0.out.cell 5
          have mlt0 : B1 < w26.heap.size := K26_0.out.lt
          go_wp2_with fail
          clear m0_0 m0_1 m0_2 m0_3 m0_4 m0_5 mlt0
          refine (CS.out _ L26.out).mono ?_
          rintro e w27 ⟨rfl, hb⟩
          have L27 := Lib.hid (L26.out.trans (hb.mono L26.out.size))
          have K27_0 := Lib.hid (K26_0.out.below hb K26_0.out.lt)
          clear hb K26_0
          by_cases hz : dl = 0
          · have hb2 : ¬ (0 : Int) < (dl : Int) := by omega
            have HZ := Lib.hid hz; clear hz
            have m0_0 : w27.cell? ⟨B1, 0, none⟩ = some _ := K27_0.out.cell 0
            have m0_1 : w27.cell? ⟨B1, 1, none⟩ = some _ := K27_0.out.cell 1
            have m0_2 : w27.cell? ⟨B1, 2, none⟩ = some _ := K27_0.out.cell 2
            have m0_3 : w27.cell? ⟨B1, 3, none⟩ = some _ := K27_0.out.cell 3
            have m0_4 : w27.cell? ⟨B1, 4, none⟩ = some _ := K27_0.out.cell 4
            have m0_5 : w27.cell? ⟨B1, 5, none⟩ = some _ := K27_0.out.cell 5
            have mlt0 : B1 < w27.heap.size := K27_0.out.lt
            go_wp2
            clear m0_0 m0_1 m0_2 m0_3 m0_4 m0_5 mlt0
            go_ret
            exact ⟨by rw [HO.out, if_neg hh, RH.out, if_pos HKK.out, RS.out, if_pos HZ.out, R0.out]; rfl, L27.out⟩
          · have hb2 : (0 : Int) < (dl : Int) := by omega
            have m0_0 : w27.cell? ⟨B1, 0, none⟩ = some _ := K27_0.out.cell 0
            have m0_1 : w27.cell? ⟨B1, 1, none⟩ = some _ := K27_0.out.cell 1
            have m0_2 : w27.cell? ⟨B1, 2, none⟩ = some _ := K27_0.out.cell 2
            have m0_3 : w27.cell? ⟨B1, 3, none⟩ = some _ := K27_0.out.cell 3
            have m0_4 : w27.cell? ⟨B1, 4, none⟩ = some _ := K27_0.out.cell 4
            have m0_5 : w27.cell? ⟨B1, 5, none⟩ = some _ := K27_0.out.cell 5
            have mlt0 : B1 < w27.heap.size := K27_0.out.lt
            go_wp2_with fail
            clear m0_0 m0_1 m0_2 m0_3 m0_4 m0_5 mlt0
            refine (CD.out _ L27.out).mono ?_
            rintro e w28 ⟨rfl, hb⟩
            have L28 := Lib.hid (L27.out.trans (hb.mono L27.out.size))
            have K28_0 := Lib.hid (K27_0.out.below hb K27_0.out.lt)
            clear hb K27_0
            have m0_0 : w28.cell? ⟨B1, 0, none⟩ = some _ := K28_0.out.cell 0
            have m0_1 : w28.cell? ⟨B1, 1, none⟩ = some _ := K28_0.out.cell 1
            have m0_2 : w28.cell? ⟨B1, 2, none⟩ = some _ := K28_0.out.cell 2
            have m0_3 : w28.cell? ⟨B1, 3, none⟩ = some _ := K28_0.out.cell 3
            have m0_4 : w28.cell? ⟨B1, 4, none⟩ = some _ := K28_0.out.cell 4
            have m0_5 : w28.cell? ⟨B1, 5, none⟩ = some _ := K28_0.out.cell 5
            have mlt0 : B1 < w28.heap.size := K28_0.out.lt
            go_wp2
            clear m0_0 m0_1 m0_2 m0_3 m0_4 m0_5 mlt0
            go_ret
            exact ⟨by rw [HO.out, if_neg hh, RH.out, if_pos HKK.out, RS.out, if_neg hz, RD.out]; rfl, L28.out⟩
        · have hb1 : (k == 4) = false := by simpa using hk
          by_cases hz : dl = 0
          · have hb2 : ¬ (0 : Int) < (dl : Int) := by omega
            have HZ := Lib.hid hz; clear hz
            have m0_0 : w26.cell? ⟨B1, 0, none⟩ = some _ := K26_0.out.cell 0
            have m0_1 : w26.cell? ⟨B1, 1, none⟩ = some _ := K26_0.out.cell 1
            have m0_2 : w26.cell? ⟨B1, 2, none⟩ = some _ := K26_0.out.cell 2
            have m0_3 : w26.cell? ⟨B1, 3, none⟩ = some _ := K26_0.out.cell 3
            have m0_4 : w26.cell? ⟨B1, 4, none⟩ = some _ := K26_0.out.cell 4
            have m0_5 : w26.cell? ⟨B1, 5, none⟩ = some _ := K26_0.out.cell 5
            have mlt0 : B1 < w26.heap.size := K26_0.out.lt
            go_wp2
            clear m0_0 m0_1 m0_2 m0_3 m0_4 m0_5 mlt0
            go_ret
            exact ⟨by rw [HO.out, if_neg hh, RH.out, if_neg hk, R0.out, if_pos HZ.out, R0.out]; rfl, L26.out⟩
          · have hb2 : (0 : Int) < (dl : Int) := by omega
            have m0_0 : w26.cell? ⟨B1, 0, none⟩ = some _ := K26_0.out.cell 0
            have m0_1 : w26.cell? ⟨B1, 1, none⟩ = some _ := K26_0.out.cell 1
            have m0_2 : w26.cell? ⟨B1, 2, none⟩ = some _ := K26_0.out.cell 2
            have m0_3 : w26.cell? ⟨B1, 3, none⟩ = some _ := K26_0.out.cell 3
            have m0_4 : w26.cell? ⟨B1, 4, none⟩ = some _ := K26_0.out.cell 4
            have m0_5 : w26.cell? ⟨B1, 5, none⟩ = some _ := K26_0.out.cell 5
            have mlt0 : B1 < w26.heap.size := K26_0.out.lt
            go_wp2_with fail
            clear m0_0 m0_1 m0_2 m0_3 m0_4 m0_5 mlt0
            refine (CD.out _ L26.out).mono ?_
            rintro e w29 ⟨rfl, hb⟩
            have L29 := Lib.hid (L26.out.trans (hb.mono L26.out.size))
            have K29_0 := Lib.hid (K26_0.out.below hb K26_0.out.lt)
            clear hb K26_0
            have m0_0 : w29.cell? ⟨B1, 0, none⟩ = some _ := K29_0.out.cell 0
            have m0_1 : w29.cell? ⟨B1, 1, none⟩ = some _ := K29_0.out.cell 1
            have m0_2 : w29.cell? ⟨B1, 2, none⟩ = some _ := K29_0.out.cell 2
            have m0_3 : w29.cell? ⟨B1, 3, none⟩ = some _ := K29_0.out.cell 3
            have m0_4 : w29.cell? ⟨B1, 4, none⟩ = some _ := K29_0.out.cell 4
            have m0_5 : w29.cell? ⟨B1, 5, none⟩ = some _ := K29_0.out.cell 5
            have mlt0 : B1 < w29.heap.size := K29_0.out.lt
            go_wp2
            clear m0_0 m0_1 m0_2 m0_3 m0_4 m0_5 mlt0
            go_ret
            exact ⟨by rw [HO.out, if_neg hh, RH.out, if_neg hk, R0.out, if_neg hz, RD.out]; rfl, L29.out⟩
end Go.Proofs.YtkddhjbdijegoaaDoor
