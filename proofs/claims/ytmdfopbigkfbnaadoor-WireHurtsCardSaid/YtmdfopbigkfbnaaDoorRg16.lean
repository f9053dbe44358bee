/-
  What Get of package runrigref16 answers: a contract over the translation. It says its own conditions.
-/
import Derived.Test.YtmdfopbigkfbnaaDoorRpv16
import Derived.Test.YtmdfopbigkfbnaaDoorGet14
namespace Go.Proofs.YtmdfopbigkfbnaaDoor
open Go.RowKit
set_option linter.unusedVariables false
set_option linter.unusedSimpArgs false
attribute [local go_sem] setCell_drewN alloc_drewN

theorem load_b16 {w : World} {b k : Nat} {x : Int} (h : w.cell? ⟨b, k, none⟩ = some (.int .u8 x)) : (Instr.loadAt 5 (.pointer (some ⟨b, k, none⟩))).run Tryd.prog w = .ok (.int .u8 x) w := by
  go_simp
theorem yield_b16 {w : World} {b k : Nat} {x : Int} (a : Act) (o : Oper) (y : Operand) (ho : o.op = .load 5 y) (hx : a.eval y = .pointer (some ⟨b, k, none⟩)) (h : w.cell? ⟨b, k, none⟩ = some (.int .u8 x)) :
    (execOp a.eval o).run Tryd.prog w = .ok (.value (.int .u8 x)) w := by
  have e := load_b16 h
  obtain ⟨op, _, _, _, _, _⟩ := o
  dsimp only at ho
  subst ho
  unfold execOp
  simp only [hx]
  simp [e]
theorem load_f16 {w : World} {b : Nat} {c0 c1 c2 c3 c4 c5 : Value} (h : Blk w b [c0, c1, c2, c3, c4, c5] 25) :
    (Instr.loadAt 25 (.pointer (some ⟨b, 0, none⟩))).run Tryd.prog w = .ok (.agg #[c0, c1, c2, c3, c4, c5]) w := by
  have h0 : w.cell? ⟨b, 0, none⟩ = some c0 := h.cell 0
  have h1 : w.cell? ⟨b, 1, none⟩ = some c1 := h.cell 1
  have h2 : w.cell? ⟨b, 2, none⟩ = some c2 := h.cell 2
  have h3 : w.cell? ⟨b, 3, none⟩ = some c3 := h.cell 3
  have h4 : w.cell? ⟨b, 4, none⟩ = some c4 := h.cell 4
  have h5 : w.cell? ⟨b, 5, none⟩ = some c5 := h.cell 5
  clear h
  go_simp
theorem yield_f16 {w : World} {b : Nat} {c0 c1 c2 c3 c4 c5 : Value} (a : Act) (o : Oper) (x : Operand) (ho : o.op = .load 25 x) (hx : a.eval x = .pointer (some ⟨b, 0, none⟩)) (h : Blk w b [c0, c1, c2, c3, c4, c5] 25) :
    (execOp a.eval o).run Tryd.prog w = .ok (.value (.agg #[c0, c1, c2, c3, c4, c5])) w := by
  have e := load_f16 h
  obtain ⟨op, _, _, _, _, _⟩ := o
  dsimp only at ho
  subst ho
  unfold execOp
  simp only [hx]
  simp [e]
theorem ropen_no16 (A : Option Addr) (n cap : Nat) (d : List Int) (w : World) (hd : Dat w A n cap d) (h : ¬ Sld d) : Calls Tryd.prog 27 #[.slice A n cap] w fun e w' => e = .returned (.tuple #[.slice none 0 0, .bool false]) ∧ Below w.heap.size w w' := by
  by_cases h4 : n < 4
  · refine (ropen_few A n cap w h4).mono ?_
    rintro e w' ⟨rfl, rfl⟩
    exact ⟨rfl, Below.refl _ _⟩
  · obtain ⟨m, rfl⟩ : ∃ m, n = m + 4 := ⟨n - 4, by omega⟩
    have := ropen_more A m cap d false w hd.rd hd.len hd.lc (by simp [h])
    simpa using this
theorem ropen_yes16 (A : Option Addr) (n cap : Nat) (d : List Int) (w : World) (hd : Dat w A n cap d) (h : Sld d) : Calls Tryd.prog 27 #[.slice A n cap] w fun e w' => e = .returned (.tuple #[.slice A (n - 4) cap, .bool true]) ∧ Below w.heap.size w w' := by
  have h4 := h.1
  rw [hd.len] at h4
  obtain ⟨m, rfl⟩ : ∃ m, n = m + 4 := ⟨n - 4, by omega⟩
  have := ropen_more A m cap d true w hd.rd hd.len hd.lc (by simp [h])
  simpa using this
theorem dat_upto {w : World} {A : Option Addr} {n cap : Nat} {d : List Int} (h : Dat w A n cap d) (m : Nat) (hm : m ≤ n) : Dat w A m cap (d.take m) :=
  ⟨h.rd.upto m, by rw [List.length_take, h.len]; omega, h.nil, Nat.le_trans hm h.lc⟩
set_option maxHeartbeats 8000000 in
theorem rget_any (A : Option Addr) (n cap : Nat) (d : List Int) (w : World) (hd : Dat w A n cap d) (hn9 : n ≤ 9000) : Calls Tryd.prog 14 #[.slice A n cap] w fun e w' => (∃ A2 cap2, e = .returned (.tuple #[.agg #[.int .i64 (getF d).f, .int .i64 (getF d).t, .bool (getF d).b, .int .u64 (getF d).s, .int .u64 (getF d).a, .slice A2 (getF d).d.length cap2], .bool (isF d)]) ∧ Dat w' A2 (getF d).d.length cap2 (getF d).d) ∧ Below w.heap.size w w' := by
  have HD := Lib.hid hd
  have hle := hd.le
  have zdat : ∀ w', Dat w' none ([] : List Int).length 0 [] := fun w' => ⟨⟨Byt.nil, by simp, fun h => by simp at h⟩, rfl, fun _ => rfl, Nat.le_refl _⟩
  have HZD := Lib.hid zdat
  have hlen := hd.len
  have hgz : isF d = false → getF d = z16 := fun h => by unfold getF; rw [h]; rfl
  have HGZ := Lib.hid hgz
  obtain ⟨i0, hi, hz0, hz1, hz2⟩ := info_parts info_u8
  clear hd zdat hgz
  by_cases hsl : Sld d
  · have h4 : 4 ≤ n := by have := hsl.1; rw [hlen] at this; exact this
    have hop : ∀ w2, Below w.heap.size w w2 → Calls Tryd.prog 27 #[.slice A n cap] w2 fun e w' => e = .returned (.tuple #[.slice A (n - 4) cap, .bool true]) ∧ Below w2.heap.size w2 w' := fun w2 hb => ropen_yes16 A n cap d w2 (HD.out.below hb) hsl
    have hdx := dat_upto HD.out (n - 4) (by omega)
    have hisf : isF d = isW (d.take (n - 4)) := by unfold isF; rw [decide_eq_true hsl, Bool.true_and, hlen]
    have hgtf : isF d = true → getF d = mk16 (d.take (n - 4)) := fun h => by unfold getF; rw [h, if_pos rfl, hlen]
    obtain ⟨x, hx⟩ : ∃ x, x = d.take (n - 4) := ⟨_, rfl⟩
    obtain ⟨m, hm⟩ : ∃ m, m = n - 4 := ⟨_, rfl⟩
    rw [← hx] at hdx hisf hgtf
    rw [← hm] at hdx hop
    have hxl := hdx.len
    have hby := hdx.rd.1
    have hlm : m ≤ 9000 := by omega
    have HOP := Lib.hid hop; have HX := Lib.hid hdx; have HIS := Lib.hid hisf; have HGT := Lib.hid hgtf; have HXL := Lib.hid hxl
    clear hop hdx hisf hgtf hxl hx hm hsl h4 hlen
    by_cases h23 : 23 ≤ m
    · obtain ⟨b, off, rfl, hc⟩ := HX.out.rd.2.2 (by rw [HXL.out]; omega)
      obtain ⟨a2, ha2, hb2⟩ : ∃ a : Nat, x.getD 2 0 = a ∧ a ≤ 255 := ⟨(x.getD 2 0).toNat, by have := hby.getD 2; omega, by have := hby.getD 2; omega⟩
      have k2 := hc 2 (by rw [HXL.out]; omega)
      rw [ha2] at k2
      obtain ⟨a3, ha3, hb3⟩ : ∃ a : Nat, x.getD 3 0 = a ∧ a ≤ 255 := ⟨(x.getD 3 0).toNat, by have := hby.getD 3; omega, by have := hby.getD 3; omega⟩
      have k3 := hc 3 (by rw [HXL.out]; omega)
      rw [ha3] at k3
      obtain ⟨a4, ha4, hb4⟩ : ∃ a : Nat, x.getD 4 0 = a ∧ a ≤ 255 := ⟨(x.getD 4 0).toNat, by have := hby.getD 4; omega, by have := hby.getD 4; omega⟩
      have k4 := hc 4 (by rw [HXL.out]; omega)
      rw [ha4] at k4
      obtain ⟨s, hvs, hws⟩ : ∃ v : Nat, le ((x.drop 5).take 8) = v ∧ v < 18446744073709551616 := by
        have h1 : Byt ((x.drop 5).take 8) := (hby.drop _).take _
        have h2 := le_nn _ h1
        have h3 := le_lt8 _ h1 (by rw [List.length_take]; omega)
        exact ⟨(le ((x.drop 5).take 8)).toNat, by omega, by omega⟩
      have hgs : ∀ w2, Below w.heap.size w w2 → Calls Tryd.prog 28 #[.slice (some ⟨b, off, none⟩) m cap, .int .i64 5, .int .i64 8] w2 fun e w' => e = .returned (.tuple #[.int .u64 (s : Int), .bool true]) ∧ Below w2.heap.size w2 w' := fun w2 hb => by
        have h : Calls Tryd.prog 28 #[.slice (some ⟨b, off, none⟩) m cap, .int .i64 5, .int .i64 8] w2 fun e w' => e = .returned (.tuple #[.int .u64 (le ((x.drop 5).take 8)), .bool true]) ∧ Below w2.heap.size w2 w' := rget_yes (some ⟨b, off, none⟩) m x cap 5 8 w2 (HX.out.below hb).rd HXL.out ⟨.inr (.inr (.inr rfl)), by omega, by omega⟩
        rwa [hvs] at h
      obtain ⟨a, hva, hwa⟩ : ∃ v : Nat, le ((x.drop 13).take 8) = v ∧ v < 18446744073709551616 := by
        have h1 : Byt ((x.drop 13).take 8) := (hby.drop _).take _
        have h2 := le_nn _ h1
        have h3 := le_lt8 _ h1 (by rw [List.length_take]; omega)
        exact ⟨(le ((x.drop 13).take 8)).toNat, by omega, by omega⟩
      have hga : ∀ w2, Below w.heap.size w w2 → Calls Tryd.prog 28 #[.slice (some ⟨b, off, none⟩) m cap, .int .i64 13, .int .i64 8] w2 fun e w' => e = .returned (.tuple #[.int .u64 (a : Int), .bool true]) ∧ Below w2.heap.size w2 w' := fun w2 hb => by
        have h : Calls Tryd.prog 28 #[.slice (some ⟨b, off, none⟩) m cap, .int .i64 13, .int .i64 8] w2 fun e w' => e = .returned (.tuple #[.int .u64 (le ((x.drop 13).take 8)), .bool true]) ∧ Below w2.heap.size w2 w' := rget_yes (some ⟨b, off, none⟩) m x cap 13 8 w2 (HX.out.below hb).rd HXL.out ⟨.inr (.inr (.inr rfl)), by omega, by omega⟩
        rwa [hva] at h
      obtain ⟨bq, hbq⟩ : ∃ bq, bq = decide ((a2 : Int) = 1) := ⟨_, rfl⟩
      have heq : ((a2 : Int) == 1) = bq := by rw [hbq]; rfl
      have hmk : isR.mkR x = ⟨a3, a4, bq, s, a, x.drop 23⟩ := by unfold isR.mkR; rw [ha2, ha3, ha4, hvs, hva, hbq]
      have hM : isF d = (rgt ⟨a3, a4, bq, s, a, x.drop 23⟩ && decide (plF ⟨a3, a4, bq, s, a, x.drop 23⟩ = x)) := by
        rw [HIS.out, ← isR_eq hby]; unfold isR
        rw [hmk, HXL.out, decide_eq_true h23, Bool.true_and]
      have hgt : isF d = true → getF d = ⟨a3, a4, bq, s, a, x.drop 23⟩ := fun h => by
        rw [HGT.out h, ← mkR_eq (by rw [HXL.out]; exact h23), hmk]
      have HM := Lib.hid hM; have HG2 := Lib.hid hgt; have H23 := Lib.hid h23; have HB := Lib.hid hby; have HGS := Lib.hid hgs; have HGA := Lib.hid hga
      have h23n : ¬ (m : Int) < 23 := by omega
      have h23i : (23 : Int) ≤ m := by omega
      have h23c : (23 : Nat) ≤ cap := by have := HX.out.lc; omega
      have hlc := HX.out.lc
      have l2 : (2 : Int) < m := by omega
      have l3 : (3 : Int) < m := by omega
      have l4 : (4 : Int) < m := by omega
      have K2b := Lib.hid k2; have K3b := Lib.hid k3; have K4b := Lib.hid k4
      have HEQ := Lib.hid heq
      clear hM hgt hmk h23 hby hc ha2 ha3 ha4 k2 k3 k4 hvs hva hgs hga hbq heq
      go_enter Tryd.func14, Tryd.ntmps14
      go_upto_region 1 with (fail)
      have nb0 : Blk (w.alloc (.cells #[.int .i64 0, .int .i64 0, .bool false, .int .u64 0, .int .u64 0, .slice none 0 0] 25)) (w.heap.size) [.int .i64 0, .int .i64 0, .bool false, .int .u64 0, .int .u64 0, .slice none 0 0] 25 := Blk.new w [.int .i64 0, .int .i64 0, .bool false, .int .u64 0, .int .u64 0, .slice none 0 0] 25
      have nls : Below w.heap.size w w := (Below.refl w.heap.size w)
      have nl0 := nls.alloc nls.size (.cells #[.int .i64 0, .int .i64 0, .bool false, .int .u64 0, .int .u64 0, .slice none 0 0] 25)
      have nl : Below w.heap.size w (w.alloc (.cells #[.int .i64 0, .int .i64 0, .bool false, .int .u64 0, .int .u64 0, .slice none 0 0] 25)) := nl0; clear nls nl0
      obtain ⟨B1, hB0⟩ : ∃ B, B = w.heap.size := ⟨_, rfl⟩
      obtain ⟨W1, hW⟩ : ∃ W, W = (w.alloc (.cells #[.int .i64 0, .int .i64 0, .bool false, .int .u64 0, .int .u64 0, .slice none 0 0] 25)) := ⟨_, rfl⟩
      rw [← hW] at nl nb0
      rw [← hB0] at nb0
      rw [← hW]
      try rw [← hB0]
      have K1_0 := Lib.hid nb0
      have G1 : Hid (w.heap.size ≤ B1) := Lib.hid (by have := (Nat.le_refl w.heap.size); omega)
      have L1 := Lib.hid nl
      clear nl hW nb0 hB0
      go_wp2_with fail
      refine (HOP.out _ L1.out).mono ?_
      rintro e w2 ⟨rfl, hb⟩
      have L2 := Lib.hid (L1.out.trans (hb.mono L1.out.size))
      have K2_0 := Lib.hid (K1_0.out.below hb K1_0.out.lt)
      clear hb K1_0
      go_upto_region 4 with (fail)
      have wa3 : IntKind.i64.wrap (a3 : Int) = a3 := by simp [IntKind.wrap, IntKind.signed, IntKind.bits]; omega
      have wa4 : IntKind.i64.wrap (a4 : Int) = a4 := by simp [IntKind.wrap, IntKind.signed, IntKind.bits]; omega
      have heq := HEQ.out
      refine wp_region_held_drew (S := fun w' => w'.cell? ⟨b, off + 2, none⟩ = some (.int .u8 (a2 : Int)) ∧ w'.cell? ⟨b, off + 3, none⟩ = some (.int .u8 (a3 : Int)) ∧ w'.cell? ⟨b, off + 4, none⟩ = some (.int .u8 (a4 : Int))) (by kernel_rfl) ⟨((L2.out.drew).cell (p := ⟨b, off + 2, none⟩) (cell_lt K2b.out)).trans K2b.out, ((L2.out.drew).cell (p := ⟨b, off + 3, none⟩) (cell_lt K3b.out)).trans K3b.out, ((L2.out.drew).cell (p := ⟨b, off + 4, none⟩) (cell_lt K4b.out)).trans K4b.out⟩ (fun hHeld => ?_)
      clear hHeld
      obtain ⟨D3, hD⟩ : ∃ x, x = w2.drew := ⟨_, rfl⟩
      rw [← hD]
      have K3_0 := Lib.hid (show Blk D3 B1 [.int .i64 0, .int .i64 0, .bool false, .int .u64 0, .int .u64 0, .slice none 0 0] 25 from hD ▸ Blk.drewN K2_0.out 1)
      have L3 := Lib.hid (show Below w.heap.size w D3 from hD ▸ L2.out.drew)
      clear hD K2_0
      have hSD3 : D3.cell? ⟨b, off + 2, none⟩ = some (.int .u8 (a2 : Int)) ∧ D3.cell? ⟨b, off + 3, none⟩ = some (.int .u8 (a3 : Int)) ∧ D3.cell? ⟨b, off + 4, none⟩ = some (.int .u8 (a4 : Int)) := ⟨(L3.out.cell (p := ⟨b, off + 2, none⟩) (cell_lt K2b.out)).trans K2b.out, (L3.out.cell (p := ⟨b, off + 3, none⟩) (cell_lt K3b.out)).trans K3b.out, (L3.out.cell (p := ⟨b, off + 4, none⟩) (cell_lt K4b.out)).trans K4b.out⟩
      simp only [List.size_toArray, List.length_cons, List.length_nil, Nat.reduceAdd]
      rw [show Array.replicate 15 false = [false, false, false, false, false, false, false, false, false, false, false, false, false, false, false].toArray from rfl]
      refine wpAnyH_take (i := 0) (v := ?_) rfl (by kernel_rfl) (by kernel_rfl) (by kernel_rfl) (fun _ _ _ h => h) (Or.inl ⟨by rfl, ?yldq⟩) (by assumption) ?_
      case yldq => (intro w hSw; (try dsimp only at hSw); go_simp; try with_reducible rfl)
      try simp only [Act.put, List.setIfInBounds_toArray, List.set_cons_zero, List.set_cons_succ, List.getElem_toArray, List.getElem_cons_succ, List.getElem_cons_zero]
      refine wpAnyH_take (i := 1) (v := ?_) rfl (by kernel_rfl) (by kernel_rfl) (by kernel_rfl) (fun _ _ _ h => h) (Or.inl ⟨by rfl, ?yldq⟩) (by assumption) ?_
      case yldq => (intro w hSw; (try dsimp only at hSw); go_simp; try with_reducible rfl)
      try simp only [Act.put, List.setIfInBounds_toArray, List.set_cons_zero, List.set_cons_succ, List.getElem_toArray, List.getElem_cons_succ, List.getElem_cons_zero]
      refine wpAnyH_take (i := 2) (v := _) rfl (by kernel_rfl) (by kernel_rfl) (by kernel_rfl) (fun _ _ _ h => h) (Or.inl ⟨by rfl, fun w hSw => yield_b16 _ _ _ rfl rfl hSw.1⟩) (by assumption) ?_
      try simp only [Act.put, List.setIfInBounds_toArray, List.set_cons_zero, List.set_cons_succ, List.getElem_toArray, List.getElem_cons_succ, List.getElem_cons_zero]
      refine wpAnyH_take (i := 3) (v := ?_) rfl (by kernel_rfl) (by kernel_rfl) (by kernel_rfl) (fun _ _ _ h => h) (Or.inl ⟨by rfl, ?yldq⟩) (by assumption) ?_
      case yldq => (intro w hSw; (try dsimp only at hSw); go_simp; try with_reducible rfl)
      try simp only [Act.put, List.setIfInBounds_toArray, List.set_cons_zero, List.set_cons_succ, List.getElem_toArray, List.getElem_cons_succ, List.getElem_cons_zero]
      refine wpAnyH_take (i := 4) (v := ?_) rfl (by kernel_rfl) (by kernel_rfl) (by kernel_rfl) (fun _ _ _ h => h) (Or.inl ⟨by rfl, ?yldq⟩) (by assumption) ?_
      case yldq => (intro w hSw; (try dsimp only at hSw); go_simp; try with_reducible rfl)
      try simp only [Act.put, List.setIfInBounds_toArray, List.set_cons_zero, List.set_cons_succ, List.getElem_toArray, List.getElem_cons_succ, List.getElem_cons_zero]
      refine wpAnyH_take (i := 5) (v := ?_) rfl (by kernel_rfl) (by kernel_rfl) (by kernel_rfl) (fun _ _ _ h => h) (Or.inl ⟨by rfl, ?yldq⟩) (by assumption) ?_
      case yldq => (intro w hSw; (try dsimp only at hSw); go_simp; try with_reducible rfl)
      try simp only [Act.put, List.setIfInBounds_toArray, List.set_cons_zero, List.set_cons_succ, List.getElem_toArray, List.getElem_cons_succ, List.getElem_cons_zero]
      refine wpAnyH_take (i := 6) (v := _) rfl (by kernel_rfl) (by kernel_rfl) (by kernel_rfl) (fun _ _ _ h => h) (Or.inl ⟨by rfl, fun w hSw => yield_b16 _ _ _ rfl rfl hSw.2.1⟩) (by assumption) ?_
      try simp only [Act.put, List.setIfInBounds_toArray, List.set_cons_zero, List.set_cons_succ, List.getElem_toArray, List.getElem_cons_succ, List.getElem_cons_zero]
      refine wpAnyH_take (i := 7) (v := ?_) rfl (by kernel_rfl) (by kernel_rfl) (by kernel_rfl) (fun _ _ _ h => h) (Or.inl ⟨by rfl, ?yldq⟩) (by assumption) ?_
      case yldq => (intro w hSw; (try dsimp only at hSw); go_simp; try with_reducible rfl)
      try simp only [Act.put, List.setIfInBounds_toArray, List.set_cons_zero, List.set_cons_succ, List.getElem_toArray, List.getElem_cons_succ, List.getElem_cons_zero]
      refine wpAnyH_take (i := 8) (v := ?_) rfl (by kernel_rfl) (by kernel_rfl) (by kernel_rfl) (fun _ _ _ h => h) (Or.inl ⟨by rfl, ?yldq⟩) (by assumption) ?_
      case yldq => (intro w hSw; (try dsimp only at hSw); go_simp; try with_reducible rfl)
      try simp only [Act.put, List.setIfInBounds_toArray, List.set_cons_zero, List.set_cons_succ, List.getElem_toArray, List.getElem_cons_succ, List.getElem_cons_zero]
      refine wpAnyH_take (i := 9) (v := ?_) rfl (by kernel_rfl) (by kernel_rfl) (by kernel_rfl) (fun _ _ _ h => h) (Or.inl ⟨by rfl, ?yldq⟩) (by assumption) ?_
      case yldq => (intro w hSw; (try dsimp only at hSw); go_simp; try with_reducible rfl)
      try simp only [Act.put, List.setIfInBounds_toArray, List.set_cons_zero, List.set_cons_succ, List.getElem_toArray, List.getElem_cons_succ, List.getElem_cons_zero]
      refine wpAnyH_take (i := 10) (v := _) rfl (by kernel_rfl) (by kernel_rfl) (by kernel_rfl) (fun _ _ _ h => h) (Or.inl ⟨by rfl, fun w hSw => yield_b16 _ _ _ rfl rfl hSw.2.2⟩) (by assumption) ?_
      try simp only [Act.put, List.setIfInBounds_toArray, List.set_cons_zero, List.set_cons_succ, List.getElem_toArray, List.getElem_cons_succ, List.getElem_cons_zero]
      refine wpAnyH_take (i := 11) (v := ?_) rfl (by kernel_rfl) (by kernel_rfl) (by kernel_rfl) (fun _ _ _ h => h) (Or.inl ⟨by rfl, ?yldq⟩) (by assumption) ?_
      case yldq => (intro w hSw; (try dsimp only at hSw); go_simp; try with_reducible rfl)
      try simp only [Act.put, List.setIfInBounds_toArray, List.set_cons_zero, List.set_cons_succ, List.getElem_toArray, List.getElem_cons_succ, List.getElem_cons_zero]
      refine wpAnyH_take (i := 12) (v := ?_) rfl (by kernel_rfl) (by kernel_rfl) (by kernel_rfl) (fun _ _ _ h => h) (Or.inl ⟨by rfl, ?yldq⟩) (by assumption) ?_
      case yldq => (intro w hSw; (try dsimp only at hSw); go_simp; try with_reducible rfl)
      try simp only [Act.put, List.setIfInBounds_toArray, List.set_cons_zero, List.set_cons_succ, List.getElem_toArray, List.getElem_cons_succ, List.getElem_cons_zero]
      refine wpAnyH_ready (rs := [13]) (by kernel_rfl) (by simp) ?_
      refine AllReadyH.cons rfl (fun K hK => ?_) AllReadyH.nil
      go_simp
      have nb0 : Blk (D3.alloc (.cells #[.int .i64 0, .int .i64 0, .bool false, .int .u64 0, .int .u64 0, .slice none 0 0] 25)) (D3.heap.size) [.int .i64 0, .int .i64 0, .bool false, .int .u64 0, .int .u64 0, .slice none 0 0] 25 := Blk.new D3 [.int .i64 0, .int .i64 0, .bool false, .int .u64 0, .int .u64 0, .slice none 0 0] 25
      have nls : Below w.heap.size w D3 := L3.out
      have nl0 := nls.alloc nls.size (.cells #[.int .i64 0, .int .i64 0, .bool false, .int .u64 0, .int .u64 0, .slice none 0 0] 25)
      have nl : Below w.heap.size w (D3.alloc (.cells #[.int .i64 0, .int .i64 0, .bool false, .int .u64 0, .int .u64 0, .slice none 0 0] 25)) := nl0; clear nls nl0
      have o0 : Blk (D3.alloc (.cells #[.int .i64 0, .int .i64 0, .bool false, .int .u64 0, .int .u64 0, .slice none 0 0] 25)) B1 [.int .i64 0, .int .i64 0, .bool false, .int .u64 0, .int .u64 0, .slice none 0 0] 25 := (K3_0.out.alloc (.cells #[.int .i64 0, .int .i64 0, .bool false, .int .u64 0, .int .u64 0, .slice none 0 0] 25))
      have d4_0 : B1 < D3.heap.size := K3_0.out.lt
      obtain ⟨B4, hB0⟩ : ∃ B, B = D3.heap.size := ⟨_, rfl⟩
      obtain ⟨W4, hW⟩ : ∃ W, W = (D3.alloc (.cells #[.int .i64 0, .int .i64 0, .bool false, .int .u64 0, .int .u64 0, .slice none 0 0] 25)) := ⟨_, rfl⟩
      rw [← hW] at nl nb0 o0
      rw [← hB0] at nb0
      rw [← hW]
      try rw [← hB0]
      have K4_0 := Lib.hid o0
      have K4_1 := Lib.hid nb0
      have G4 : Hid (w.heap.size ≤ B4) := Lib.hid (by have := L3.out.size; omega)
      have x4_0_0 : B1 ≠ B4 := by omega
      have X4_0_0 := Lib.hid x4_0_0; clear x4_0_0
      have L4 := Lib.hid nl
      clear nl hW nb0 hB0 o0 d4_0 K3_0
      refine hK.out _ _ ⟨(L4.out.cell (p := ⟨b, off + 2, none⟩) (cell_lt K2b.out)).trans K2b.out, (L4.out.cell (p := ⟨b, off + 3, none⟩) (cell_lt K3b.out)).trans K3b.out, (L4.out.cell (p := ⟨b, off + 4, none⟩) (cell_lt K4b.out)).trans K4b.out⟩ (fun hS13 => ?_)
      clear hK K
      refine wpAnyH_ready (rs := [14]) (by kernel_rfl) (by simp) ?_
      refine AllReadyH.cons rfl (fun K hK => ?_) AllReadyH.nil
      have m1_0 : W4.cell? ⟨B4, 0, none⟩ = some _ := K4_1.out.cell 0
      have m1_1 : W4.cell? ⟨B4, 1, none⟩ = some _ := K4_1.out.cell 1
      have m1_2 : W4.cell? ⟨B4, 2, none⟩ = some _ := K4_1.out.cell 2
      have m1_3 : W4.cell? ⟨B4, 3, none⟩ = some _ := K4_1.out.cell 3
      have m1_4 : W4.cell? ⟨B4, 4, none⟩ = some _ := K4_1.out.cell 4
      have m1_5 : W4.cell? ⟨B4, 5, none⟩ = some _ := K4_1.out.cell 5
      have mlt1 : B4 < W4.heap.size := K4_1.out.lt
      have mf1 : ∀ o, W4.frozen? ⟨B4, o, none⟩ = false := fun o => K4_1.out.free o
      go_simp
      clear m1_0 m1_1 m1_2 m1_3 m1_4 m1_5 mlt1 mf1
      obtain ⟨W5, hW⟩ : ∃ WX, WX = ((((((W4.setCell ⟨B4, 0, none⟩ (.int .i64 (a3 : Int))).setCell ⟨B4, 1, none⟩ (.int .i64 (a4 : Int))).setCell ⟨B4, 2, none⟩ (.bool bq)).setCell ⟨B4, 3, none⟩ (.int .u64 0)).setCell ⟨B4, 4, none⟩ (.int .u64 0)).setCell ⟨B4, 5, none⟩ (.slice none 0 0)) := ⟨_, rfl⟩
      rw [← hW]
      have K5_0 := Lib.hid (show Blk W5 B1 [.int .i64 0, .int .i64 0, .bool false, .int .u64 0, .int .u64 0, .slice none 0 0] 25 from hW ▸ ((((((K4_0.out.other ⟨B4, 0, none⟩ (.int .i64 (a3 : Int)) X4_0_0.out).other ⟨B4, 1, none⟩ (.int .i64 (a4 : Int)) X4_0_0.out).other ⟨B4, 2, none⟩ (.bool bq) X4_0_0.out).other ⟨B4, 3, none⟩ (.int .u64 0) X4_0_0.out).other ⟨B4, 4, none⟩ (.int .u64 0) X4_0_0.out).other ⟨B4, 5, none⟩ (.slice none 0 0) X4_0_0.out))
      have K5_1 := Lib.hid (show Blk W5 B4 [.int .i64 (a3 : Int), .int .i64 (a4 : Int), .bool bq, .int .u64 0, .int .u64 0, .slice none 0 0] 25 from hW ▸ ((((((K4_1.out.set 0 (.int .i64 (a3 : Int))).set 1 (.int .i64 (a4 : Int))).set 2 (.bool bq)).set 3 (.int .u64 0)).set 4 (.int .u64 0)).set 5 (.slice none 0 0)))
      have L5 := Lib.hid (show Below w.heap.size w W5 from hW ▸ (Below.setCell (Below.setCell (Below.setCell (Below.setCell (Below.setCell (Below.setCell L4.out G4.out _) G4.out _) G4.out _) G4.out _) G4.out _) G4.out _))
      clear hW K4_0 K4_1
      refine hK.out _ _ ⟨(L5.out.cell (p := ⟨b, off + 2, none⟩) (cell_lt K2b.out)).trans K2b.out, (L5.out.cell (p := ⟨b, off + 3, none⟩) (cell_lt K3b.out)).trans K3b.out, (L5.out.cell (p := ⟨b, off + 4, none⟩) (cell_lt K4b.out)).trans K4b.out⟩ (fun hS14 => ?_)
      clear hK K
      refine wpAnyH_done (by kernel_rfl) ?_ _
      clear hS13 hS14 wa3 wa4 heq
      go_wp2_with fail
      refine (HGS.out _ L5.out).mono ?_
      rintro e w6 ⟨rfl, hb⟩
      have L6 := Lib.hid (L5.out.trans (hb.mono L5.out.size))
      have K6_0 := Lib.hid (K5_0.out.below hb K5_0.out.lt)
      have K6_1 := Lib.hid (K5_1.out.below hb K5_1.out.lt)
      clear hb K5_0 K5_1
      have m1_0 : w6.cell? ⟨B4, 0, none⟩ = some _ := K6_1.out.cell 0
      have m1_1 : w6.cell? ⟨B4, 1, none⟩ = some _ := K6_1.out.cell 1
      have m1_2 : w6.cell? ⟨B4, 2, none⟩ = some _ := K6_1.out.cell 2
      have m1_3 : w6.cell? ⟨B4, 3, none⟩ = some _ := K6_1.out.cell 3
      have m1_4 : w6.cell? ⟨B4, 4, none⟩ = some _ := K6_1.out.cell 4
      have m1_5 : w6.cell? ⟨B4, 5, none⟩ = some _ := K6_1.out.cell 5
      have mlt1 : B4 < w6.heap.size := K6_1.out.lt
      have mf1 : ∀ o, w6.frozen? ⟨B4, o, none⟩ = false := fun o => K6_1.out.free o
      go_upto_region 6 with (fail)
      clear m1_0 m1_1 m1_2 m1_3 m1_4 m1_5 mlt1 mf1
      obtain ⟨W7, hW⟩ : ∃ WX, WX = (w6.setCell ⟨B4, 3, none⟩ (.int .u64 (s : Int))) := ⟨_, rfl⟩
      rw [← hW]
      have K7_0 := Lib.hid (show Blk W7 B1 [.int .i64 0, .int .i64 0, .bool false, .int .u64 0, .int .u64 0, .slice none 0 0] 25 from hW ▸ (K6_0.out.other ⟨B4, 3, none⟩ (.int .u64 (s : Int)) X4_0_0.out))
      have K7_1 := Lib.hid (show Blk W7 B4 [.int .i64 (a3 : Int), .int .i64 (a4 : Int), .bool bq, .int .u64 (s : Int), .int .u64 0, .slice none 0 0] 25 from hW ▸ (K6_1.out.set 3 (.int .u64 (s : Int))))
      have L7 := Lib.hid (show Below w.heap.size w W7 from hW ▸ (Below.setCell L6.out G4.out _))
      clear hW K6_0 K6_1
      go_wp2_with fail
      refine (HGA.out _ L7.out).mono ?_
      rintro e w8 ⟨rfl, hb⟩
      have L8 := Lib.hid (L7.out.trans (hb.mono L7.out.size))
      have K8_0 := Lib.hid (K7_0.out.below hb K7_0.out.lt)
      have K8_1 := Lib.hid (K7_1.out.below hb K7_1.out.lt)
      clear hb K7_0 K7_1
      have m1_0 : w8.cell? ⟨B4, 0, none⟩ = some _ := K8_1.out.cell 0
      have m1_1 : w8.cell? ⟨B4, 1, none⟩ = some _ := K8_1.out.cell 1
      have m1_2 : w8.cell? ⟨B4, 2, none⟩ = some _ := K8_1.out.cell 2
      have m1_3 : w8.cell? ⟨B4, 3, none⟩ = some _ := K8_1.out.cell 3
      have m1_4 : w8.cell? ⟨B4, 4, none⟩ = some _ := K8_1.out.cell 4
      have m1_5 : w8.cell? ⟨B4, 5, none⟩ = some _ := K8_1.out.cell 5
      have mlt1 : B4 < w8.heap.size := K8_1.out.lt
      have mf1 : ∀ o, w8.frozen? ⟨B4, o, none⟩ = false := fun o => K8_1.out.free o
      go_upto_region 7 with (fail)
      clear m1_0 m1_1 m1_2 m1_3 m1_4 m1_5 mlt1 mf1
      obtain ⟨W9, hW⟩ : ∃ WX, WX = (w8.setCell ⟨B4, 4, none⟩ (.int .u64 (a : Int))) := ⟨_, rfl⟩
      rw [← hW]
      have K9_0 := Lib.hid (show Blk W9 B1 [.int .i64 0, .int .i64 0, .bool false, .int .u64 0, .int .u64 0, .slice none 0 0] 25 from hW ▸ (K8_0.out.other ⟨B4, 4, none⟩ (.int .u64 (a : Int)) X4_0_0.out))
      have K9_1 := Lib.hid (show Blk W9 B4 [.int .i64 (a3 : Int), .int .i64 (a4 : Int), .bool bq, .int .u64 (s : Int), .int .u64 (a : Int), .slice none 0 0] 25 from hW ▸ (K8_1.out.set 4 (.int .u64 (a : Int))))
      have L9 := Lib.hid (show Below w.heap.size w W9 from hW ▸ (Below.setCell L8.out G4.out _))
      clear hW K8_0 K8_1
      refine wp_region_held_drew (S := fun _ => True) (by kernel_rfl) trivial (fun hHeld => ?_)
      clear hHeld
      obtain ⟨D10, hD⟩ : ∃ x, x = W9.drew := ⟨_, rfl⟩
      rw [← hD]
      have K10_0 := Lib.hid (show Blk D10 B1 [.int .i64 0, .int .i64 0, .bool false, .int .u64 0, .int .u64 0, .slice none 0 0] 25 from hD ▸ Blk.drewN K9_0.out 1)
      have K10_1 := Lib.hid (show Blk D10 B4 [.int .i64 (a3 : Int), .int .i64 (a4 : Int), .bool bq, .int .u64 (s : Int), .int .u64 (a : Int), .slice none 0 0] 25 from hD ▸ Blk.drewN K9_1.out 1)
      have L10 := Lib.hid (show Below w.heap.size w D10 from hD ▸ L9.out.drew)
      clear hD K9_0 K9_1
      have hSD : True := trivial
      simp only [List.size_toArray, List.length_cons, List.length_nil, Nat.reduceAdd]
      rw [show Array.replicate 7 false = [false, false, false, false, false, false, false].toArray from rfl]
      refine wpAnyH_take (i := 0) (v := ?_) rfl (by kernel_rfl) (by kernel_rfl) (by kernel_rfl) (fun _ _ _ h => h) (Or.inl ⟨by rfl, ?yldq⟩) (by assumption) ?_
      case yldq => (intro w hSw; (try dsimp only at hSw); go_simp; try with_reducible rfl)
      try simp only [Act.put, List.setIfInBounds_toArray, List.set_cons_zero, List.set_cons_succ, List.getElem_toArray, List.getElem_cons_succ, List.getElem_cons_zero]
      refine wpAnyH_take (i := 2) (v := ?_) rfl (by kernel_rfl) (by kernel_rfl) (by kernel_rfl) (fun _ _ _ h => h) (Or.inl ⟨by rfl, ?yldq⟩) (by assumption) ?_
      case yldq => (intro w hSw; (try dsimp only at hSw); go_simp; try with_reducible rfl)
      try simp only [Act.put, List.setIfInBounds_toArray, List.set_cons_zero, List.set_cons_succ, List.getElem_toArray, List.getElem_cons_succ, List.getElem_cons_zero]
      refine wpAnyH_take (i := 3) (v := ?_) rfl (by kernel_rfl) (by kernel_rfl) (by kernel_rfl) (fun _ _ _ h => h) (Or.inl ⟨by rfl, ?yldq⟩) (by assumption) ?_
      case yldq => (intro w hSw; (try dsimp only at hSw); go_simp; try with_reducible rfl)
      try simp only [Act.put, List.setIfInBounds_toArray, List.set_cons_zero, List.set_cons_succ, List.getElem_toArray, List.getElem_cons_succ, List.getElem_cons_zero]
      obtain ⟨AA, hAA⟩ : ∃ AA, AA = (if cap = 23 then some (⟨b, off, none⟩ : Addr) else some ⟨b, off + 23, none⟩) := ⟨_, rfl⟩
      rw [← hAA]
      have HAA := Lib.hid hAA; clear hAA
      have hdd := (HX.out.below L10.out).from2 23 H23.out
      rw [← HAA.out] at hdd
      have hsr := hdd.src
      have lt1 : B1 < D10.heap.size := K10_0.out.lt
      have lt6 : B4 < D10.heap.size := K10_1.out.lt
      refine wpAnyH_ready (rs := [1]) (by kernel_rfl) (by simp) ?_
      refine AllReadyH.cons rfl (fun K hK => ?_) AllReadyH.nil
      have m1_0 : D10.cell? ⟨B4, 0, none⟩ = some _ := K10_1.out.cell 0
      have m1_1 : D10.cell? ⟨B4, 1, none⟩ = some _ := K10_1.out.cell 1
      have m1_2 : D10.cell? ⟨B4, 2, none⟩ = some _ := K10_1.out.cell 2
      have m1_3 : D10.cell? ⟨B4, 3, none⟩ = some _ := K10_1.out.cell 3
      have m1_4 : D10.cell? ⟨B4, 4, none⟩ = some _ := K10_1.out.cell 4
      have m1_5 : D10.cell? ⟨B4, 5, none⟩ = some _ := K10_1.out.cell 5
      have mlt1 : B4 < D10.heap.size := K10_1.out.lt
      go_simp
      clear m1_0 m1_1 m1_2 m1_3 m1_4 m1_5 mlt1
      refine hK.out _ _ trivial (fun hS1 => ?_)
      clear hK K
      refine wpAnyH_ready (rs := [4]) (by kernel_rfl) (by simp) ?_
      refine AllReadyH.cons rfl (fun K hK => ?_) AllReadyH.nil
      rw [if_pos (by rfl)]
      refine wp_append_src (.tmp 46) (.tmp 48) 23 rfl D10.heap.size 5 i0 (.int .u8 0) 1 1 Tryd.underlying23 hi hz0 hz1 hz2 rfl (by decide) (.slice none 0 0) 0 [] rfl (World.ownsRow_nil _ _ _ _) _ (m - 23) ((x.drop 23).map (Value.int .u8)) rfl hsr ?c1 ?c2 ?c3 ?c4 (Nat.le_refl _) ?_
      case c1 => rw [List.length_map, hdd.len, Nat.mul_one]
      case c2 => intro u hu; obtain ⟨x, _, rfl⟩ := List.mem_map.1 hu; rfl
      case c3 => unfold maxLen; omega
      case c4 => omega
      intro vv w20 ho hg
      have hov : OwnV D10.heap.size (x.drop 23) vv w20 := by unfold OwnV; rw [hdd.len]; simpa using ho
      have hb := (Below.refl D10.heap.size D10).grown hg (Nat.le_refl _) (fun k hk => by cases hk)
      clear ho hg hsr
      have L11 := Lib.hid (L10.out.trans (hb.mono L10.out.size))
      have K11_0 := Lib.hid (K10_0.out.below hb K10_0.out.lt)
      have K11_1 := Lib.hid (K10_1.out.below hb K10_1.out.lt)
      clear hb K10_0 K10_1
      have hlo := hov.lt
      obtain ⟨A2, cap2, rfl, hdt⟩ := OwnV.dat hov (HB.out.drop 23)
      obtain ⟨m2, hm2⟩ : ∃ m, m = (x.drop 23).length := ⟨_, rfl⟩
      rw [← hm2] at hdt hlo ⊢
      have hA2 : ∀ b o, A2 = some ⟨b, o, none⟩ → D10.heap.size ≤ b := fun b o e => (hlo b (by subst e; rfl)).1
      have neA : ∀ b o, A2 = some ⟨b, o, none⟩ → b ≠ B1 := fun b o e => by have := hA2 b o e; omega
      have neB : ∀ b o, A2 = some ⟨b, o, none⟩ → b ≠ B4 := fun b o e => by have := hA2 b o e; omega
      have NA := Lib.hid neA; have NB := Lib.hid neB; have T0 := Lib.hid hdt; have HM2 := Lib.hid hm2
      clear hlo hdt hA2 hov hm2 hdd neA neB lt1 lt6
      refine hK.out _ _ trivial (fun hS4 => ?_)
      clear hK K
      refine wpAnyH_take (i := 5) (v := ?_) rfl (by kernel_rfl) (by kernel_rfl) (by kernel_rfl) (fun _ _ _ h => h) (Or.inl ⟨by rfl, ?yldq⟩) (by assumption) ?_
      case yldq => (intro w hSw; (try dsimp only at hSw); go_simp; try with_reducible rfl)
      try simp only [Act.put, List.setIfInBounds_toArray, List.set_cons_zero, List.set_cons_succ, List.getElem_toArray, List.getElem_cons_succ, List.getElem_cons_zero]
      refine wpAnyH_ready (rs := [6]) (by kernel_rfl) (by simp) ?_
      refine AllReadyH.cons rfl (fun K hK => ?_) AllReadyH.nil
      have m1_0 : w20.cell? ⟨B4, 0, none⟩ = some _ := K11_1.out.cell 0
      have m1_1 : w20.cell? ⟨B4, 1, none⟩ = some _ := K11_1.out.cell 1
      have m1_2 : w20.cell? ⟨B4, 2, none⟩ = some _ := K11_1.out.cell 2
      have m1_3 : w20.cell? ⟨B4, 3, none⟩ = some _ := K11_1.out.cell 3
      have m1_4 : w20.cell? ⟨B4, 4, none⟩ = some _ := K11_1.out.cell 4
      have m1_5 : w20.cell? ⟨B4, 5, none⟩ = some _ := K11_1.out.cell 5
      have mlt1 : B4 < w20.heap.size := K11_1.out.lt
      have mf1 : ∀ o, w20.frozen? ⟨B4, o, none⟩ = false := fun o => K11_1.out.free o
      go_simp
      clear m1_0 m1_1 m1_2 m1_3 m1_4 m1_5 mlt1 mf1
      have dd0 : Dat (w20.setCell ⟨B4, 5, none⟩ (.slice A2 m2 cap2)) A2 m2 cap2 (x.drop 23) := T0.out.other ⟨B4, 5, none⟩ (.slice A2 m2 cap2) NB.out
      obtain ⟨W12, hW⟩ : ∃ WX, WX = (w20.setCell ⟨B4, 5, none⟩ (.slice A2 m2 cap2)) := ⟨_, rfl⟩
      rw [← hW] at dd0
      have T12_0 := Lib.hid dd0
      clear dd0 T0
      rw [← hW]
      have K12_0 := Lib.hid (show Blk W12 B1 [.int .i64 0, .int .i64 0, .bool false, .int .u64 0, .int .u64 0, .slice none 0 0] 25 from hW ▸ (K11_0.out.other ⟨B4, 5, none⟩ (.slice A2 m2 cap2) X4_0_0.out))
      have K12_1 := Lib.hid (show Blk W12 B4 [.int .i64 (a3 : Int), .int .i64 (a4 : Int), .bool bq, .int .u64 (s : Int), .int .u64 (a : Int), .slice A2 m2 cap2] 25 from hW ▸ (K11_1.out.set 5 (.slice A2 m2 cap2)))
      have L12 := Lib.hid (show Below w.heap.size w W12 from hW ▸ (Below.setCell L11.out G4.out _))
      clear hW K11_0 K11_1
      refine hK.out _ _ trivial (fun hS6 => ?_)
      clear hK K
      refine wpAnyH_done (by kernel_rfl) ?_ _
      go_upto_region 8 with (fail)
      have hdc : ∀ w2, Below w.heap.size w w2 → (convert 23 9 (.slice (some ⟨b, off, none⟩) m cap)).run Tryd.prog w2 = .ok (.string (strOfNums x)) w2 := fun w2 h => (HX.out.below h).rd.conv m cap HXL.out
      have HDC := Lib.hid hdc; clear hdc
      refine wp_region_held_drew (S := fun w' => Blk w' B4 [.int .i64 (a3 : Int), .int .i64 (a4 : Int), .bool bq, .int .u64 (s : Int), .int .u64 (a : Int), .slice A2 m2 cap2] 25 ∧ (convert 23 9 (.slice (some ⟨b, off, none⟩) m cap)).run Tryd.prog w' = .ok (.string (strOfNums x)) w') (by kernel_rfl) ⟨K12_1.out, HDC.out _ (L12.out.drew)⟩ (fun hHeld => ?_)
      clear hHeld
      have dd0 : Dat W12.drew A2 m2 cap2 (x.drop 23) := T12_0.out.drew
      obtain ⟨D13, hD⟩ : ∃ x, x = W12.drew := ⟨_, rfl⟩
      rw [← hD] at dd0
      have T13_0 := Lib.hid dd0
      clear dd0 T12_0
      rw [← hD]
      have K13_0 := Lib.hid (show Blk D13 B1 [.int .i64 0, .int .i64 0, .bool false, .int .u64 0, .int .u64 0, .slice none 0 0] 25 from hD ▸ Blk.drewN K12_0.out 1)
      have K13_1 := Lib.hid (show Blk D13 B4 [.int .i64 (a3 : Int), .int .i64 (a4 : Int), .bool bq, .int .u64 (s : Int), .int .u64 (a : Int), .slice A2 m2 cap2] 25 from hD ▸ Blk.drewN K12_1.out 1)
      have L13 := Lib.hid (show Below w.heap.size w D13 from hD ▸ L12.out.drew)
      clear hD K12_0 K12_1
      have hSD13 : Blk D13 B4 [.int .i64 (a3 : Int), .int .i64 (a4 : Int), .bool bq, .int .u64 (s : Int), .int .u64 (a : Int), .slice A2 m2 cap2] 25 ∧ (convert 23 9 (.slice (some ⟨b, off, none⟩) m cap)).run Tryd.prog D13 = .ok (.string (strOfNums x)) D13 := ⟨K13_1.out, HDC.out _ L13.out⟩
      simp only [List.size_toArray, List.length_cons, List.length_nil, Nat.reduceAdd]
      rw [show Array.replicate 10 false = [false, false, false, false, false, false, false, false, false, false].toArray from rfl]
      refine wpAnyH_take (i := 0) (v := _) rfl (by kernel_rfl) (by kernel_rfl) (by kernel_rfl) (fun _ _ _ h => h) (Or.inl ⟨by rfl, fun w hSw => yield_f16 _ _ _ rfl rfl hSw.1⟩) (by assumption) ?_
      try simp only [Act.put, List.setIfInBounds_toArray, List.set_cons_zero, List.set_cons_succ, List.getElem_toArray, List.getElem_cons_succ, List.getElem_cons_zero]
      obtain ⟨RG, hRG⟩ : ∃ RG, RG = rgt ⟨a3, a4, bq, s, a, x.drop 23⟩ := ⟨_, rfl⟩
      have hrg2 : (nok (a3 : Int) a4 && bok bq (s : Int) m2) = RG := by rw [hRG, HM2.out]; rfl
      have hri := rright_any (a3 : Int) a4 s a bq A2 m2 cap2 D13 (by omega) T13_0.out.le
      rw [hrg2] at hri
      have HRI := Lib.hid hri; have HRG := Lib.hid hRG; clear hri hRG hrg2
      refine wpAnyH_ready (rs := [1]) (by kernel_rfl) (by simp) ?_
      refine AllReadyH.cons rfl (fun K hK => ?_) AllReadyH.nil
      go_simp
      refine (HRI.out).mono ?_
      rintro e w14 ⟨rfl, hb⟩
      have L14 := Lib.hid (L13.out.trans (hb.mono L13.out.size))
      have K14_0 := Lib.hid (K13_0.out.below hb K13_0.out.lt)
      have K14_1 := Lib.hid (K13_1.out.below hb K13_1.out.lt)
      have T14_0 := Lib.hid (T13_0.out.below hb)
      clear T13_0
      clear hb K13_0 K13_1
      refine hK.out _ _ ⟨K14_1.out, HDC.out _ L14.out⟩ (fun hS1 => ?_)
      clear hK K
      cases RG
      · skip
        refine wpAnyH_take (i := 2) (v := ?_) rfl (by kernel_rfl) (by kernel_rfl) (by kernel_rfl) (fun _ _ _ h => h) (Or.inl ⟨by rfl, ?yldq⟩) (by assumption) ?_
        case yldq => (intro w hSw; (try dsimp only at hSw); go_simp; try with_reducible rfl)
        try simp only [Act.put, List.setIfInBounds_toArray, List.set_cons_zero, List.set_cons_succ, List.getElem_toArray, List.getElem_cons_succ, List.getElem_cons_zero]
        refine wpAnyH_take (i := 3) (v := ?_) rfl (by kernel_rfl) (by kernel_rfl) (by kernel_rfl) (fun _ _ _ h => h) (Or.inl ⟨by rfl, ?yldq⟩) (by assumption) ?_
        case yldq => (intro w hSw; (try dsimp only at hSw); go_simp; try with_reducible rfl)
        try simp only [Act.put, List.setIfInBounds_toArray, List.set_cons_zero, List.set_cons_succ, List.getElem_toArray, List.getElem_cons_succ, List.getElem_cons_zero]
        refine wpAnyH_take (i := 4) (v := undef) rfl (by kernel_rfl) (by kernel_rfl) (by kernel_rfl) (fun _ _ _ h => h) (Or.inr ⟨by rfl, rfl⟩) (by assumption) ?_
        try simp only [Act.put, List.setIfInBounds_toArray, List.set_cons_zero, List.set_cons_succ, List.getElem_toArray, List.getElem_cons_succ, List.getElem_cons_zero]
        refine wpAnyH_take (i := 5) (v := undef) rfl (by kernel_rfl) (by kernel_rfl) (by kernel_rfl) (fun _ _ _ h => h) (Or.inr ⟨by rfl, rfl⟩) (by assumption) ?_
        try simp only [Act.put, List.setIfInBounds_toArray, List.set_cons_zero, List.set_cons_succ, List.getElem_toArray, List.getElem_cons_succ, List.getElem_cons_zero]
        refine wpAnyH_take (i := 6) (v := undef) rfl (by kernel_rfl) (by kernel_rfl) (by kernel_rfl) (fun _ _ _ h => h) (Or.inr ⟨by rfl, rfl⟩) (by assumption) ?_
        try simp only [Act.put, List.setIfInBounds_toArray, List.set_cons_zero, List.set_cons_succ, List.getElem_toArray, List.getElem_cons_succ, List.getElem_cons_zero]
        refine wpAnyH_take (i := 7) (v := undef) rfl (by kernel_rfl) (by kernel_rfl) (by kernel_rfl) (fun _ _ _ h => h) (Or.inr ⟨by rfl, rfl⟩) (by assumption) ?_
        try simp only [Act.put, List.setIfInBounds_toArray, List.set_cons_zero, List.set_cons_succ, List.getElem_toArray, List.getElem_cons_succ, List.getElem_cons_zero]
        refine wpAnyH_take (i := 8) (v := undef) rfl (by kernel_rfl) (by kernel_rfl) (by kernel_rfl) (fun _ _ _ h => h) (Or.inr ⟨by rfl, rfl⟩) (by assumption) ?_
        try simp only [Act.put, List.setIfInBounds_toArray, List.set_cons_zero, List.set_cons_succ, List.getElem_toArray, List.getElem_cons_succ, List.getElem_cons_zero]
        refine wpAnyH_take (i := 9) (v := ?_) rfl (by kernel_rfl) (by kernel_rfl) (by kernel_rfl) (fun _ _ _ h => h) (Or.inl ⟨by rfl, ?yldq⟩) (by assumption) ?_
        case yldq => (intro w hSw; (try dsimp only at hSw); go_simp; try with_reducible rfl)
        try simp only [Act.put, List.setIfInBounds_toArray, List.set_cons_zero, List.set_cons_succ, List.getElem_toArray, List.getElem_cons_succ, List.getElem_cons_zero]
        refine wpAnyH_done (by kernel_rfl) ?_ _
        have hnm : isF d = false := by rw [HM.out, ← HRG.out]; rfl
        have hgm := HGZ.out hnm
        have HNM := Lib.hid hnm; have HGM := Lib.hid hgm; clear hnm hgm
        have m0_0 : w14.cell? ⟨B1, 0, none⟩ = some _ := K14_0.out.cell 0
        have m0_1 : w14.cell? ⟨B1, 1, none⟩ = some _ := K14_0.out.cell 1
        have m0_2 : w14.cell? ⟨B1, 2, none⟩ = some _ := K14_0.out.cell 2
        have m0_3 : w14.cell? ⟨B1, 3, none⟩ = some _ := K14_0.out.cell 3
        have m0_4 : w14.cell? ⟨B1, 4, none⟩ = some _ := K14_0.out.cell 4
        have m0_5 : w14.cell? ⟨B1, 5, none⟩ = some _ := K14_0.out.cell 5
        have mlt0 : B1 < w14.heap.size := K14_0.out.lt
        have mf0 : ∀ o, w14.frozen? ⟨B1, o, none⟩ = false := fun o => K14_0.out.free o
        go_wp2
        clear m0_0 m0_1 m0_2 m0_3 m0_4 m0_5 mlt0 mf0
        obtain ⟨W15, hW⟩ : ∃ WX, WX = ((((((w14.setCell ⟨B1, 0, none⟩ (.int .i64 0)).setCell ⟨B1, 1, none⟩ (.int .i64 0)).setCell ⟨B1, 2, none⟩ (.bool false)).setCell ⟨B1, 3, none⟩ (.int .u64 0)).setCell ⟨B1, 4, none⟩ (.int .u64 0)).setCell ⟨B1, 5, none⟩ (.slice none 0 0)) := ⟨_, rfl⟩
        rw [← hW]
        have K15_0 := Lib.hid (show Blk W15 B1 [.int .i64 0, .int .i64 0, .bool false, .int .u64 0, .int .u64 0, .slice none 0 0] 25 from hW ▸ ((((((K14_0.out.set 0 (.int .i64 0)).set 1 (.int .i64 0)).set 2 (.bool false)).set 3 (.int .u64 0)).set 4 (.int .u64 0)).set 5 (.slice none 0 0)))
        have K15_1 := Lib.hid (show Blk W15 B4 [.int .i64 (a3 : Int), .int .i64 (a4 : Int), .bool bq, .int .u64 (s : Int), .int .u64 (a : Int), .slice A2 m2 cap2] 25 from hW ▸ ((((((K14_1.out.other ⟨B1, 0, none⟩ (.int .i64 0) (Ne.symm X4_0_0.out)).other ⟨B1, 1, none⟩ (.int .i64 0) (Ne.symm X4_0_0.out)).other ⟨B1, 2, none⟩ (.bool false) (Ne.symm X4_0_0.out)).other ⟨B1, 3, none⟩ (.int .u64 0) (Ne.symm X4_0_0.out)).other ⟨B1, 4, none⟩ (.int .u64 0) (Ne.symm X4_0_0.out)).other ⟨B1, 5, none⟩ (.slice none 0 0) (Ne.symm X4_0_0.out)))
        have L15 := Lib.hid (show Below w.heap.size w W15 from hW ▸ (Below.setCell (Below.setCell (Below.setCell (Below.setCell (Below.setCell (Below.setCell L14.out G1.out _) G1.out _) G1.out _) G1.out _) G1.out _) G1.out _))
        clear hW K14_0 K14_1
        have rr0 : W15.cell? ⟨B1, 0, none⟩ = some _ := K15_0.out.cell 0
        have rr1 : W15.cell? ⟨B1, 1, none⟩ = some _ := K15_0.out.cell 1
        have rr2 : W15.cell? ⟨B1, 2, none⟩ = some _ := K15_0.out.cell 2
        have rr3 : W15.cell? ⟨B1, 3, none⟩ = some _ := K15_0.out.cell 3
        have rr4 : W15.cell? ⟨B1, 4, none⟩ = some _ := K15_0.out.cell 4
        have rr5 : W15.cell? ⟨B1, 5, none⟩ = some _ := K15_0.out.cell 5
        refine bodyPost_ret (v := .tuple #[.agg #[.int .i64 0, .int .i64 0, .bool false, .int .u64 0, .int .u64 0, .slice none 0 0], .bool false]) (by simp [results, Tryd.results14, go_sem, rr0, rr1, rr2, rr3, rr4, rr5]) rfl (by rw [HGM.out, HNM.out]; exact ⟨⟨none, 0, rfl, HZD.out _⟩, L15.out⟩)
      · skip
        refine wpAnyH_take (i := 2) (v := ?_) rfl (by kernel_rfl) (by kernel_rfl) (by kernel_rfl) (fun _ _ _ h => h) (Or.inl ⟨by rfl, ?yldq⟩) (by assumption) ?_
        case yldq => (intro w hSw; (try dsimp only at hSw); go_simp; try with_reducible rfl)
        try simp only [Act.put, List.setIfInBounds_toArray, List.set_cons_zero, List.set_cons_succ, List.getElem_toArray, List.getElem_cons_succ, List.getElem_cons_zero]
        refine wpAnyH_take (i := 3) (v := ?_) rfl (by kernel_rfl) (by kernel_rfl) (by kernel_rfl) (fun _ _ _ h => h) (Or.inl ⟨by rfl, ?yldq⟩) (by assumption) ?_
        case yldq => (intro w hSw; (try dsimp only at hSw); go_simp; try with_reducible rfl)
        try simp only [Act.put, List.setIfInBounds_toArray, List.set_cons_zero, List.set_cons_succ, List.getElem_toArray, List.getElem_cons_succ, List.getElem_cons_zero]
        refine wpAnyH_take (i := 4) (v := _) rfl (by kernel_rfl) (by kernel_rfl) (by kernel_rfl) (fun _ _ _ h => h) (Or.inl ⟨by rfl, fun w hSw => yield_f16 _ _ _ rfl rfl hSw.1⟩) (by assumption) ?_
        try simp only [Act.put, List.setIfInBounds_toArray, List.set_cons_zero, List.set_cons_succ, List.getElem_toArray, List.getElem_cons_succ, List.getElem_cons_zero]
        by_cases hpe : plF ⟨a3, a4, bq, s, a, x.drop 23⟩ = x
        · have hpi := rplain_yes a3 a4 bq s a A2 m2 cap2 (x.drop 23) _ T14_0.out HRG.out.symm hws hwa
          rw [hpe] at hpi
          have HPI := Lib.hid hpi; clear hpi
          refine wpAnyH_take (i := 6) (v := ?_) rfl (by kernel_rfl) (by kernel_rfl) (by kernel_rfl) (fun _ _ _ h => h) (Or.inl ⟨by rfl, ?yldq⟩) (by assumption) ?_
          case yldq => (intro w hSw; (try dsimp only at hSw); go_simp; try with_reducible rfl)
          try simp only [Act.put, List.setIfInBounds_toArray, List.set_cons_zero, List.set_cons_succ, List.getElem_toArray, List.getElem_cons_succ, List.getElem_cons_zero]
          refine wpAnyH_take (i := 7) (v := ?_) rfl (by kernel_rfl) (by kernel_rfl) (by kernel_rfl) (fun _ _ _ h => h) (Or.inl ⟨by rfl, ?yldq⟩) (by assumption) ?_
          case yldq => (intro w hSw; (try dsimp only at hSw); go_simp; try with_reducible rfl)
          try simp only [Act.put, List.setIfInBounds_toArray, List.set_cons_zero, List.set_cons_succ, List.getElem_toArray, List.getElem_cons_succ, List.getElem_cons_zero]
          refine wpAnyH_ready (rs := [5]) (by kernel_rfl) (by simp) ?_
          refine AllReadyH.cons rfl (fun K hK => ?_) AllReadyH.nil
          go_simp
          refine (HPI.out).mono ?_
          rintro e w16 ⟨rfl, hb⟩
          have L16 := Lib.hid (L14.out.trans (hb.mono L14.out.size))
          have K16_0 := Lib.hid (K14_0.out.below hb K14_0.out.lt)
          have K16_1 := Lib.hid (K14_1.out.below hb K14_1.out.lt)
          have T16_0 := Lib.hid (T14_0.out.below hb)
          clear T14_0
          clear hb K14_0 K14_1
          refine hK.out _ _ ⟨K16_1.out, HDC.out _ L16.out⟩ (fun hS5 => ?_)
          clear hK K
          refine wpAnyH_take (i := 8) (v := ?_) rfl (by kernel_rfl) (by kernel_rfl) (by kernel_rfl) (fun _ _ _ h => h) (Or.inl ⟨by rfl, ?yldq⟩) (by assumption) ?_
          case yldq => (intro w hSw; (try dsimp only at hSw); go_simp; try with_reducible rfl)
          try simp only [Act.put, List.setIfInBounds_toArray, List.set_cons_zero, List.set_cons_succ, List.getElem_toArray, List.getElem_cons_succ, List.getElem_cons_zero]
          refine wpAnyH_take (i := 9) (v := ?_) rfl (by kernel_rfl) (by kernel_rfl) (by kernel_rfl) (fun _ _ _ h => h) (Or.inl ⟨by rfl, ?yldq⟩) (by assumption) ?_
          case yldq => (intro w hSw; (try dsimp only at hSw); go_simp; try with_reducible rfl)
          try simp only [Act.put, List.setIfInBounds_toArray, List.set_cons_zero, List.set_cons_succ, List.getElem_toArray, List.getElem_cons_succ, List.getElem_cons_zero]
          refine wpAnyH_done (by kernel_rfl) ?_ _
          have him : isF d = true := by rw [HM.out, ← HRG.out, decide_eq_true hpe]; rfl
          have hgm := HG2.out him
          have HNM := Lib.hid him; have HGM := Lib.hid hgm; clear him hgm
          have m0_0 : w16.cell? ⟨B1, 0, none⟩ = some _ := K16_0.out.cell 0
          have m0_1 : w16.cell? ⟨B1, 1, none⟩ = some _ := K16_0.out.cell 1
          have m0_2 : w16.cell? ⟨B1, 2, none⟩ = some _ := K16_0.out.cell 2
          have m0_3 : w16.cell? ⟨B1, 3, none⟩ = some _ := K16_0.out.cell 3
          have m0_4 : w16.cell? ⟨B1, 4, none⟩ = some _ := K16_0.out.cell 4
          have m0_5 : w16.cell? ⟨B1, 5, none⟩ = some _ := K16_0.out.cell 5
          have mlt0 : B1 < w16.heap.size := K16_0.out.lt
          have mf0 : ∀ o, w16.frozen? ⟨B1, o, none⟩ = false := fun o => K16_0.out.free o
          have m1_0 : w16.cell? ⟨B4, 0, none⟩ = some _ := K16_1.out.cell 0
          have m1_1 : w16.cell? ⟨B4, 1, none⟩ = some _ := K16_1.out.cell 1
          have m1_2 : w16.cell? ⟨B4, 2, none⟩ = some _ := K16_1.out.cell 2
          have m1_3 : w16.cell? ⟨B4, 3, none⟩ = some _ := K16_1.out.cell 3
          have m1_4 : w16.cell? ⟨B4, 4, none⟩ = some _ := K16_1.out.cell 4
          have m1_5 : w16.cell? ⟨B4, 5, none⟩ = some _ := K16_1.out.cell 5
          have mlt1 : B4 < w16.heap.size := K16_1.out.lt
          go_wp2
          clear m0_0 m0_1 m0_2 m0_3 m0_4 m0_5 mlt0 mf0 m1_0 m1_1 m1_2 m1_3 m1_4 m1_5 mlt1
          have dd0 : Dat ((((((w16.setCell ⟨B1, 0, none⟩ (.int .i64 (a3 : Int))).setCell ⟨B1, 1, none⟩ (.int .i64 (a4 : Int))).setCell ⟨B1, 2, none⟩ (.bool bq)).setCell ⟨B1, 3, none⟩ (.int .u64 (s : Int))).setCell ⟨B1, 4, none⟩ (.int .u64 (a : Int))).setCell ⟨B1, 5, none⟩ (.slice A2 m2 cap2)) A2 m2 cap2 (x.drop 23) := ((((((T16_0.out.other ⟨B1, 0, none⟩ (.int .i64 (a3 : Int)) NA.out).other ⟨B1, 1, none⟩ (.int .i64 (a4 : Int)) NA.out).other ⟨B1, 2, none⟩ (.bool bq) NA.out).other ⟨B1, 3, none⟩ (.int .u64 (s : Int)) NA.out).other ⟨B1, 4, none⟩ (.int .u64 (a : Int)) NA.out).other ⟨B1, 5, none⟩ (.slice A2 m2 cap2) NA.out)
          obtain ⟨W17, hW⟩ : ∃ WX, WX = ((((((w16.setCell ⟨B1, 0, none⟩ (.int .i64 (a3 : Int))).setCell ⟨B1, 1, none⟩ (.int .i64 (a4 : Int))).setCell ⟨B1, 2, none⟩ (.bool bq)).setCell ⟨B1, 3, none⟩ (.int .u64 (s : Int))).setCell ⟨B1, 4, none⟩ (.int .u64 (a : Int))).setCell ⟨B1, 5, none⟩ (.slice A2 m2 cap2)) := ⟨_, rfl⟩
          rw [← hW] at dd0
          have T17_0 := Lib.hid dd0
          clear dd0 T16_0
          rw [← hW]
          have K17_0 := Lib.hid (show Blk W17 B1 [.int .i64 (a3 : Int), .int .i64 (a4 : Int), .bool bq, .int .u64 (s : Int), .int .u64 (a : Int), .slice A2 m2 cap2] 25 from hW ▸ ((((((K16_0.out.set 0 (.int .i64 (a3 : Int))).set 1 (.int .i64 (a4 : Int))).set 2 (.bool bq)).set 3 (.int .u64 (s : Int))).set 4 (.int .u64 (a : Int))).set 5 (.slice A2 m2 cap2)))
          have K17_1 := Lib.hid (show Blk W17 B4 [.int .i64 (a3 : Int), .int .i64 (a4 : Int), .bool bq, .int .u64 (s : Int), .int .u64 (a : Int), .slice A2 m2 cap2] 25 from hW ▸ ((((((K16_1.out.other ⟨B1, 0, none⟩ (.int .i64 (a3 : Int)) (Ne.symm X4_0_0.out)).other ⟨B1, 1, none⟩ (.int .i64 (a4 : Int)) (Ne.symm X4_0_0.out)).other ⟨B1, 2, none⟩ (.bool bq) (Ne.symm X4_0_0.out)).other ⟨B1, 3, none⟩ (.int .u64 (s : Int)) (Ne.symm X4_0_0.out)).other ⟨B1, 4, none⟩ (.int .u64 (a : Int)) (Ne.symm X4_0_0.out)).other ⟨B1, 5, none⟩ (.slice A2 m2 cap2) (Ne.symm X4_0_0.out)))
          have L17 := Lib.hid (show Below w.heap.size w W17 from hW ▸ (Below.setCell (Below.setCell (Below.setCell (Below.setCell (Below.setCell (Below.setCell L16.out G1.out _) G1.out _) G1.out _) G1.out _) G1.out _) G1.out _))
          clear hW K16_0 K16_1
          have rr0 : W17.cell? ⟨B1, 0, none⟩ = some _ := K17_0.out.cell 0
          have rr1 : W17.cell? ⟨B1, 1, none⟩ = some _ := K17_0.out.cell 1
          have rr2 : W17.cell? ⟨B1, 2, none⟩ = some _ := K17_0.out.cell 2
          have rr3 : W17.cell? ⟨B1, 3, none⟩ = some _ := K17_0.out.cell 3
          have rr4 : W17.cell? ⟨B1, 4, none⟩ = some _ := K17_0.out.cell 4
          have rr5 : W17.cell? ⟨B1, 5, none⟩ = some _ := K17_0.out.cell 5
          refine bodyPost_ret (v := .tuple #[.agg #[.int .i64 (a3 : Int), .int .i64 (a4 : Int), .bool bq, .int .u64 (s : Int), .int .u64 (a : Int), .slice A2 m2 cap2], .bool true]) (by simp [results, Tryd.results14, go_sem, rr0, rr1, rr2, rr3, rr4, rr5]) rfl (by rw [HGM.out, HNM.out]; exact ⟨⟨A2, cap2, (by rw [T17_0.out.len]), (by rw [T17_0.out.len]; exact T17_0.out)⟩, L17.out⟩)
        · have hpi := rplain_yes a3 a4 bq s a A2 m2 cap2 (x.drop 23) _ T14_0.out HRG.out.symm hws hwa
          have hq : ((strOfNums (plF ⟨a3, a4, bq, s, a, x.drop 23⟩)).toList == (strOfNums x).toList) = false := by
            rw [Lib.bytes_beq_false_iff]; exact fun e => hpe (str_inj (plF_Byt HRG.out.symm (HB.out.drop 23)) HB.out e)
          generalize strOfNums (plF ⟨a3, a4, bq, s, a, x.drop 23⟩) = SP at hpi hq
          have HPI := Lib.hid hpi; clear hpi
          refine wpAnyH_take (i := 6) (v := ?_) rfl (by kernel_rfl) (by kernel_rfl) (by kernel_rfl) (fun _ _ _ h => h) (Or.inl ⟨by rfl, ?yldq⟩) (by assumption) ?_
          case yldq => (intro w hSw; (try dsimp only at hSw); go_simp; try with_reducible rfl)
          try simp only [Act.put, List.setIfInBounds_toArray, List.set_cons_zero, List.set_cons_succ, List.getElem_toArray, List.getElem_cons_succ, List.getElem_cons_zero]
          refine wpAnyH_take (i := 7) (v := ?_) rfl (by kernel_rfl) (by kernel_rfl) (by kernel_rfl) (fun _ _ _ h => h) (Or.inl ⟨by rfl, ?yldq⟩) (by assumption) ?_
          case yldq => (intro w hSw; (try dsimp only at hSw); go_simp; try with_reducible rfl)
          try simp only [Act.put, List.setIfInBounds_toArray, List.set_cons_zero, List.set_cons_succ, List.getElem_toArray, List.getElem_cons_succ, List.getElem_cons_zero]
          refine wpAnyH_ready (rs := [5]) (by kernel_rfl) (by simp) ?_
          refine AllReadyH.cons rfl (fun K hK => ?_) AllReadyH.nil
          go_simp
          refine (HPI.out).mono ?_
          rintro e w18 ⟨rfl, hb⟩
          have L18 := Lib.hid (L14.out.trans (hb.mono L14.out.size))
          have K18_0 := Lib.hid (K14_0.out.below hb K14_0.out.lt)
          have K18_1 := Lib.hid (K14_1.out.below hb K14_1.out.lt)
          have T18_0 := Lib.hid (T14_0.out.below hb)
          clear T14_0
          clear hb K14_0 K14_1
          refine hK.out _ _ ⟨K18_1.out, HDC.out _ L18.out⟩ (fun hS5 => ?_)
          clear hK K
          refine wpAnyH_take (i := 8) (v := ?_) rfl (by kernel_rfl) (by kernel_rfl) (by kernel_rfl) (fun _ _ _ h => h) (Or.inl ⟨by rfl, ?yldq⟩) (by assumption) ?_
          case yldq => (intro w hSw; (try dsimp only at hSw); go_simp; try with_reducible rfl)
          try simp only [Act.put, List.setIfInBounds_toArray, List.set_cons_zero, List.set_cons_succ, List.getElem_toArray, List.getElem_cons_succ, List.getElem_cons_zero]
          refine wpAnyH_take (i := 9) (v := ?_) rfl (by kernel_rfl) (by kernel_rfl) (by kernel_rfl) (fun _ _ _ h => h) (Or.inl ⟨by rfl, ?yldq⟩) (by assumption) ?_
          case yldq => (intro w hSw; (try dsimp only at hSw); go_simp; try with_reducible rfl)
          try simp only [Act.put, List.setIfInBounds_toArray, List.set_cons_zero, List.set_cons_succ, List.getElem_toArray, List.getElem_cons_succ, List.getElem_cons_zero]
          refine wpAnyH_done (by kernel_rfl) ?_ _
          have hnm : isF d = false := by rw [HM.out, decide_eq_false hpe, Bool.and_false]
          have hgm := HGZ.out hnm
          have HNM := Lib.hid hnm; have HGM := Lib.hid hgm; clear hnm hgm
          have m0_0 : w18.cell? ⟨B1, 0, none⟩ = some _ := K18_0.out.cell 0
          have m0_1 : w18.cell? ⟨B1, 1, none⟩ = some _ := K18_0.out.cell 1
          have m0_2 : w18.cell? ⟨B1, 2, none⟩ = some _ := K18_0.out.cell 2
          have m0_3 : w18.cell? ⟨B1, 3, none⟩ = some _ := K18_0.out.cell 3
          have m0_4 : w18.cell? ⟨B1, 4, none⟩ = some _ := K18_0.out.cell 4
          have m0_5 : w18.cell? ⟨B1, 5, none⟩ = some _ := K18_0.out.cell 5
          have mlt0 : B1 < w18.heap.size := K18_0.out.lt
          have mf0 : ∀ o, w18.frozen? ⟨B1, o, none⟩ = false := fun o => K18_0.out.free o
          go_wp2
          clear m0_0 m0_1 m0_2 m0_3 m0_4 m0_5 mlt0 mf0
          obtain ⟨W19, hW⟩ : ∃ WX, WX = ((((((w18.setCell ⟨B1, 0, none⟩ (.int .i64 0)).setCell ⟨B1, 1, none⟩ (.int .i64 0)).setCell ⟨B1, 2, none⟩ (.bool false)).setCell ⟨B1, 3, none⟩ (.int .u64 0)).setCell ⟨B1, 4, none⟩ (.int .u64 0)).setCell ⟨B1, 5, none⟩ (.slice none 0 0)) := ⟨_, rfl⟩
          rw [← hW]
          have K19_0 := Lib.hid (show Blk W19 B1 [.int .i64 0, .int .i64 0, .bool false, .int .u64 0, .int .u64 0, .slice none 0 0] 25 from hW ▸ ((((((K18_0.out.set 0 (.int .i64 0)).set 1 (.int .i64 0)).set 2 (.bool false)).set 3 (.int .u64 0)).set 4 (.int .u64 0)).set 5 (.slice none 0 0)))
          have K19_1 := Lib.hid (show Blk W19 B4 [.int .i64 (a3 : Int), .int .i64 (a4 : Int), .bool bq, .int .u64 (s : Int), .int .u64 (a : Int), .slice A2 m2 cap2] 25 from hW ▸ ((((((K18_1.out.other ⟨B1, 0, none⟩ (.int .i64 0) (Ne.symm X4_0_0.out)).other ⟨B1, 1, none⟩ (.int .i64 0) (Ne.symm X4_0_0.out)).other ⟨B1, 2, none⟩ (.bool false) (Ne.symm X4_0_0.out)).other ⟨B1, 3, none⟩ (.int .u64 0) (Ne.symm X4_0_0.out)).other ⟨B1, 4, none⟩ (.int .u64 0) (Ne.symm X4_0_0.out)).other ⟨B1, 5, none⟩ (.slice none 0 0) (Ne.symm X4_0_0.out)))
          have L19 := Lib.hid (show Below w.heap.size w W19 from hW ▸ (Below.setCell (Below.setCell (Below.setCell (Below.setCell (Below.setCell (Below.setCell L18.out G1.out _) G1.out _) G1.out _) G1.out _) G1.out _) G1.out _))
          clear hW K18_0 K18_1
          have rr0 : W19.cell? ⟨B1, 0, none⟩ = some _ := K19_0.out.cell 0
          have rr1 : W19.cell? ⟨B1, 1, none⟩ = some _ := K19_0.out.cell 1
          have rr2 : W19.cell? ⟨B1, 2, none⟩ = some _ := K19_0.out.cell 2
          have rr3 : W19.cell? ⟨B1, 3, none⟩ = some _ := K19_0.out.cell 3
          have rr4 : W19.cell? ⟨B1, 4, none⟩ = some _ := K19_0.out.cell 4
          have rr5 : W19.cell? ⟨B1, 5, none⟩ = some _ := K19_0.out.cell 5
          refine bodyPost_ret (v := .tuple #[.agg #[.int .i64 0, .int .i64 0, .bool false, .int .u64 0, .int .u64 0, .slice none 0 0], .bool false]) (by simp [results, Tryd.results14, go_sem, rr0, rr1, rr2, rr3, rr4, rr5]) rfl (by rw [HGM.out, HNM.out]; exact ⟨⟨none, 0, rfl, HZD.out _⟩, L19.out⟩)
    · have q23 : (m : Int) < 23 := by omega
      go_enter Tryd.func14, Tryd.ntmps14
      go_upto_region 1 with (fail)
      have nb0 : Blk (w.alloc (.cells #[.int .i64 0, .int .i64 0, .bool false, .int .u64 0, .int .u64 0, .slice none 0 0] 25)) (w.heap.size) [.int .i64 0, .int .i64 0, .bool false, .int .u64 0, .int .u64 0, .slice none 0 0] 25 := Blk.new w [.int .i64 0, .int .i64 0, .bool false, .int .u64 0, .int .u64 0, .slice none 0 0] 25
      have nls : Below w.heap.size w w := (Below.refl w.heap.size w)
      have nl0 := nls.alloc nls.size (.cells #[.int .i64 0, .int .i64 0, .bool false, .int .u64 0, .int .u64 0, .slice none 0 0] 25)
      have nl : Below w.heap.size w (w.alloc (.cells #[.int .i64 0, .int .i64 0, .bool false, .int .u64 0, .int .u64 0, .slice none 0 0] 25)) := nl0; clear nls nl0
      obtain ⟨B1, hB0⟩ : ∃ B, B = w.heap.size := ⟨_, rfl⟩
      obtain ⟨W1, hW⟩ : ∃ W, W = (w.alloc (.cells #[.int .i64 0, .int .i64 0, .bool false, .int .u64 0, .int .u64 0, .slice none 0 0] 25)) := ⟨_, rfl⟩
      rw [← hW] at nl nb0
      rw [← hB0] at nb0
      rw [← hW]
      try rw [← hB0]
      have K1_0 := Lib.hid nb0
      have G1 : Hid (w.heap.size ≤ B1) := Lib.hid (by have := (Nat.le_refl w.heap.size); omega)
      have L1 := Lib.hid nl
      clear nl hW nb0 hB0
      go_wp2_with fail
      refine (HOP.out _ L1.out).mono ?_
      rintro e w2 ⟨rfl, hb⟩
      have L2 := Lib.hid (L1.out.trans (hb.mono L1.out.size))
      have K2_0 := Lib.hid (K1_0.out.below hb K1_0.out.lt)
      clear hb K1_0
      have hnm : isF d = false := by rw [HIS.out]; unfold isW; rw [HXL.out, decide_eq_false h23]; rfl
      have hgm := HGZ.out hnm
      have HNM := Lib.hid hnm; have HGM := Lib.hid hgm; clear hnm hgm
      have m0_0 : w2.cell? ⟨B1, 0, none⟩ = some _ := K2_0.out.cell 0
      have m0_1 : w2.cell? ⟨B1, 1, none⟩ = some _ := K2_0.out.cell 1
      have m0_2 : w2.cell? ⟨B1, 2, none⟩ = some _ := K2_0.out.cell 2
      have m0_3 : w2.cell? ⟨B1, 3, none⟩ = some _ := K2_0.out.cell 3
      have m0_4 : w2.cell? ⟨B1, 4, none⟩ = some _ := K2_0.out.cell 4
      have m0_5 : w2.cell? ⟨B1, 5, none⟩ = some _ := K2_0.out.cell 5
      have mlt0 : B1 < w2.heap.size := K2_0.out.lt
      have mf0 : ∀ o, w2.frozen? ⟨B1, o, none⟩ = false := fun o => K2_0.out.free o
      go_wp2
      clear m0_0 m0_1 m0_2 m0_3 m0_4 m0_5 mlt0 mf0
      obtain ⟨W3, hW⟩ : ∃ WX, WX = ((((((w2.setCell ⟨B1, 0, none⟩ (.int .i64 0)).setCell ⟨B1, 1, none⟩ (.int .i64 0)).setCell ⟨B1, 2, none⟩ (.bool false)).setCell ⟨B1, 3, none⟩ (.int .u64 0)).setCell ⟨B1, 4, none⟩ (.int .u64 0)).setCell ⟨B1, 5, none⟩ (.slice none 0 0)) := ⟨_, rfl⟩
      rw [← hW]
      have K3_0 := Lib.hid (show Blk W3 B1 [.int .i64 0, .int .i64 0, .bool false, .int .u64 0, .int .u64 0, .slice none 0 0] 25 from hW ▸ ((((((K2_0.out.set 0 (.int .i64 0)).set 1 (.int .i64 0)).set 2 (.bool false)).set 3 (.int .u64 0)).set 4 (.int .u64 0)).set 5 (.slice none 0 0)))
      have L3 := Lib.hid (show Below w.heap.size w W3 from hW ▸ (Below.setCell (Below.setCell (Below.setCell (Below.setCell (Below.setCell (Below.setCell L2.out G1.out _) G1.out _) G1.out _) G1.out _) G1.out _) G1.out _))
      clear hW K2_0
      have rr0 : W3.cell? ⟨B1, 0, none⟩ = some _ := K3_0.out.cell 0
      have rr1 : W3.cell? ⟨B1, 1, none⟩ = some _ := K3_0.out.cell 1
      have rr2 : W3.cell? ⟨B1, 2, none⟩ = some _ := K3_0.out.cell 2
      have rr3 : W3.cell? ⟨B1, 3, none⟩ = some _ := K3_0.out.cell 3
      have rr4 : W3.cell? ⟨B1, 4, none⟩ = some _ := K3_0.out.cell 4
      have rr5 : W3.cell? ⟨B1, 5, none⟩ = some _ := K3_0.out.cell 5
      refine bodyPost_ret (v := .tuple #[.agg #[.int .i64 0, .int .i64 0, .bool false, .int .u64 0, .int .u64 0, .slice none 0 0], .bool false]) (by simp [results, Tryd.results14, go_sem, rr0, rr1, rr2, rr3, rr4, rr5]) rfl (by rw [HGM.out, HNM.out]; exact ⟨⟨none, 0, rfl, HZD.out _⟩, L3.out⟩)
  · go_enter Tryd.func14, Tryd.ntmps14
    go_upto_region 1 with (fail)
    have nb0 : Blk (w.alloc (.cells #[.int .i64 0, .int .i64 0, .bool false, .int .u64 0, .int .u64 0, .slice none 0 0] 25)) (w.heap.size) [.int .i64 0, .int .i64 0, .bool false, .int .u64 0, .int .u64 0, .slice none 0 0] 25 := Blk.new w [.int .i64 0, .int .i64 0, .bool false, .int .u64 0, .int .u64 0, .slice none 0 0] 25
    have nls : Below w.heap.size w w := (Below.refl w.heap.size w)
    have nl0 := nls.alloc nls.size (.cells #[.int .i64 0, .int .i64 0, .bool false, .int .u64 0, .int .u64 0, .slice none 0 0] 25)
    have nl : Below w.heap.size w (w.alloc (.cells #[.int .i64 0, .int .i64 0, .bool false, .int .u64 0, .int .u64 0, .slice none 0 0] 25)) := nl0; clear nls nl0
    obtain ⟨B1, hB0⟩ : ∃ B, B = w.heap.size := ⟨_, rfl⟩
    obtain ⟨W1, hW⟩ : ∃ W, W = (w.alloc (.cells #[.int .i64 0, .int .i64 0, .bool false, .int .u64 0, .int .u64 0, .slice none 0 0] 25)) := ⟨_, rfl⟩
    rw [← hW] at nl nb0
    rw [← hB0] at nb0
    rw [← hW]
    try rw [← hB0]
    have K1_0 := Lib.hid nb0
    have G1 : Hid (w.heap.size ≤ B1) := Lib.hid (by have := (Nat.le_refl w.heap.size); omega)
    have L1 := Lib.hid nl
    clear nl hW nb0 hB0
    go_wp2_with fail
    refine (ropen_no16 A n cap d _ (HD.out.below L1.out) hsl).mono ?_
    rintro e w2 ⟨rfl, hb⟩
    have L2 := Lib.hid (L1.out.trans (hb.mono L1.out.size))
    have K2_0 := Lib.hid (K1_0.out.below hb K1_0.out.lt)
    clear hb K1_0
    have hnm : isF d = false := by unfold isF; rw [decide_eq_false hsl]; rfl
    have hgm := HGZ.out hnm
    have HNM := Lib.hid hnm; have HGM := Lib.hid hgm; clear hnm hgm
    have m0_0 : w2.cell? ⟨B1, 0, none⟩ = some _ := K2_0.out.cell 0
    have m0_1 : w2.cell? ⟨B1, 1, none⟩ = some _ := K2_0.out.cell 1
    have m0_2 : w2.cell? ⟨B1, 2, none⟩ = some _ := K2_0.out.cell 2
    have m0_3 : w2.cell? ⟨B1, 3, none⟩ = some _ := K2_0.out.cell 3
    have m0_4 : w2.cell? ⟨B1, 4, none⟩ = some _ := K2_0.out.cell 4
    have m0_5 : w2.cell? ⟨B1, 5, none⟩ = some _ := K2_0.out.cell 5
    have mlt0 : B1 < w2.heap.size := K2_0.out.lt
    have mf0 : ∀ o, w2.frozen? ⟨B1, o, none⟩ = false := fun o => K2_0.out.free o
    go_wp2
    clear m0_0 m0_1 m0_2 m0_3 m0_4 m0_5 mlt0 mf0
    obtain ⟨W3, hW⟩ : ∃ WX, WX = ((((((w2.setCell ⟨B1, 0, none⟩ (.int .i64 0)).setCell ⟨B1, 1, none⟩ (.int .i64 0)).setCell ⟨B1, 2, none⟩ (.bool false)).setCell ⟨B1, 3, none⟩ (.int .u64 0)).setCell ⟨B1, 4, none⟩ (.int .u64 0)).setCell ⟨B1, 5, none⟩ (.slice none 0 0)) := ⟨_, rfl⟩
    rw [← hW]
    have K3_0 := Lib.hid (show Blk W3 B1 [.int .i64 0, .int .i64 0, .bool false, .int .u64 0, .int .u64 0, .slice none 0 0] 25 from hW ▸ ((((((K2_0.out.set 0 (.int .i64 0)).set 1 (.int .i64 0)).set 2 (.bool false)).set 3 (.int .u64 0)).set 4 (.int .u64 0)).set 5 (.slice none 0 0)))
    have L3 := Lib.hid (show Below w.heap.size w W3 from hW ▸ (Below.setCell (Below.setCell (Below.setCell (Below.setCell (Below.setCell (Below.setCell L2.out G1.out _) G1.out _) G1.out _) G1.out _) G1.out _) G1.out _))
    clear hW K2_0
    have rr0 : W3.cell? ⟨B1, 0, none⟩ = some _ := K3_0.out.cell 0
    have rr1 : W3.cell? ⟨B1, 1, none⟩ = some _ := K3_0.out.cell 1
    have rr2 : W3.cell? ⟨B1, 2, none⟩ = some _ := K3_0.out.cell 2
    have rr3 : W3.cell? ⟨B1, 3, none⟩ = some _ := K3_0.out.cell 3
    have rr4 : W3.cell? ⟨B1, 4, none⟩ = some _ := K3_0.out.cell 4
    have rr5 : W3.cell? ⟨B1, 5, none⟩ = some _ := K3_0.out.cell 5
    refine bodyPost_ret (v := .tuple #[.agg #[.int .i64 0, .int .i64 0, .bool false, .int .u64 0, .int .u64 0, .slice none 0 0], .bool false]) (by simp [results, Tryd.results14, go_sem, rr0, rr1, rr2, rr3, rr4, rr5]) rfl (by rw [HGM.out, HNM.out]; exact ⟨⟨none, 0, rfl, HZD.out _⟩, L3.out⟩)
end Go.Proofs.YtmdfopbigkfbnaaDoor
