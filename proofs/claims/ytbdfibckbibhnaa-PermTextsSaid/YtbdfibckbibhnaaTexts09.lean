/-
  Layer 9's law on texts of flags: its walk. No conditions but that the arguments are of their types.
-/
import Derived.Test.YtbdfibckbibhnaaLaw09
import Derived.Lib.SlicesS
namespace Go.Proofs.Ytbdfibckbibhnaa
open Go.RowKit
set_option linter.unusedVariables false
set_option linter.unusedSimpArgs false
attribute [local go_sem] setCell_drewN alloc_drewN

theorem sg_good (n c : Int) (h : good n c = true) : sg (n == c) c = n := by
  unfold sg good at *
  by_cases e : n = c
  · simp [e]
  · simp [e] at h ⊢; exact h.symm
theorem sg_is (b : Bool) (c : Int) (h : c ≠ 45) : good (sg b c) c = true ∧ (sg b c == c) = b := by
  cases b
  · simp [sg, good]; exact fun e => h e.symm
  · simp [sg, good]
/-- Flags of a text -/
theorem flags_text (e : Ent) (w : World) : Calls Try.prog 14 #[.string (strOfNums (txt e))] w fun r w' => r = .returned (.tuple #[pv ⟨e.v, e.r, e.w, e.x, e.u, e.g, e.a, e.d, 0, 0⟩, .bool true]) ∧ Below w.heap.size w w' := by
  have hix : ∀ (k : Nat) (hk : k < 8) (n : Int), (txt e)[k]? = some n → (0 ≤ n ∧ n < 256) → ∀ w, (Instr.index 9 (.string (strOfNums (txt e))) (.int .i64 (k : Int))).run Try.prog w = .ok (.int .u8 n) w := by
    intro k hk n hn hb w
    have hs : (strOfNums (txt e)).size = 8 := str_size _
    have hg : ((strOfNums (txt e))[k]'(by omega)).toNat = n.toNat := by
      show (((txt e).map fun n => UInt8.ofNat n.toNat).toArray[k]'(by simp [txt]; omega)).toNat = _
      have hl : k < (txt e).length := by simp [txt]; omega
      have he : (txt e)[k] = n := by rw [List.getElem?_eq_getElem hl] at hn; exact Option.some.inj hn
      simp [he]; omega
    rw [run_index_string w 9 _ .i64 k Try.underlying9]
    simp [hs, hk, hg]
    rw [if_pos (by omega), show max n 0 = n by omega]
  have hb : ∀ (b : Bool) (c : Int), (0 ≤ c ∧ c < 256) → 0 ≤ sg b c ∧ sg b c < 256 := by
    intro b c h; unfold sg; split <;> omega
  have h := flags_8 (sg e.v 118) (sg e.r 114) (sg e.w 119) (sg e.x 120) (sg e.u 117) (sg e.g 103) (sg e.a 97) (sg e.d 100) (strOfNums (txt e)) w (str_size _)
    (hix 0 (by omega) _ rfl (hb _ _ (by omega)))
    (hix 1 (by omega) _ rfl (hb _ _ (by omega)))
    (hix 2 (by omega) _ rfl (hb _ _ (by omega)))
    (hix 3 (by omega) _ rfl (hb _ _ (by omega)))
    (hix 4 (by omega) _ rfl (hb _ _ (by omega)))
    (hix 5 (by omega) _ rfl (hb _ _ (by omega)))
    (hix 6 (by omega) _ rfl (hb _ _ (by omega)))
    (hix 7 (by omega) _ rfl (hb _ _ (by omega)))
  have s0 := sg_is e.v 118 (by omega)
  have s1 := sg_is e.r 114 (by omega)
  have s2 := sg_is e.w 119 (by omega)
  have s3 := sg_is e.x 120 (by omega)
  have s4 := sg_is e.u 117 (by omega)
  have s5 := sg_is e.g 103 (by omega)
  have s6 := sg_is e.a 97 (by omega)
  have s7 := sg_is e.d 100 (by omega)
  have hok : okN (sg e.v 118) (sg e.r 114) (sg e.w 119) (sg e.x 120) (sg e.u 117) (sg e.g 103) (sg e.a 97) (sg e.d 100) = true := by
    simp only [okN, goods, List.all_cons, List.all_nil, id, s0.1, s1.1, s2.1, s3.1, s4.1, s5.1, s6.1, s7.1]; rfl
  rw [hok, if_pos rfl] at h
  unfold entN at h
  rw [s0.2, s1.2, s2.2, s3.2, s4.2, s5.2, s6.2, s7.2] at h
  exact h
theorem txt_zero : strOfNums (txt entZ) = ⟨#[45, 45, 45, 45, 45, 45, 45, 45]⟩ := rfl
/-- Flags of any text -/
theorem flags_any (s : ByteArray) (hm : s.size ≤ 9223372036854775807) : ∃ (y : Ent) (is : Bool), (∀ w, Calls Try.prog 14 #[.string s] w fun r w' => r = .returned (.tuple #[pv y, .bool is]) ∧ Below w.heap.size w w') ∧
    (is = true → y.rsw = 0 ∧ y.ppn = 0 ∧ strOfNums (txt y) = s) ∧ (is = false → y = entZ ∧ (s.size = 8 → s ≠ strOfNums (txt entZ))) := by
  by_cases h8 : s.size = 8
  · obtain ⟨⟨l⟩⟩ := s
    have hl : l.length = 8 := h8
    obtain ⟨b0, b1, b2, b3, b4, b5, b6, b7, rfl⟩ : ∃ b0 b1 b2 b3 b4 b5 b6 b7, l = [b0, b1, b2, b3, b4, b5, b6, b7] := by
      match l, hl with
      | [b0, b1, b2, b3, b4, b5, b6, b7], _ => exact ⟨_, _, _, _, _, _, _, _, rfl⟩
    refine ⟨_, _, fun w => flags_8 (b0.toNat : Int) (b1.toNat : Int) (b2.toNat : Int) (b3.toNat : Int) (b4.toNat : Int) (b5.toNat : Int) (b6.toNat : Int) (b7.toNat : Int) _ w rfl (fun _ => by kernel_rfl) (fun _ => by kernel_rfl) (fun _ => by kernel_rfl) (fun _ => by kernel_rfl) (fun _ => by kernel_rfl) (fun _ => by kernel_rfl) (fun _ => by kernel_rfl) (fun _ => by kernel_rfl), ?_, ?_⟩
    · intro hok
      rw [if_pos hok]
      simp only [okN, goods, List.all_cons, List.all_nil, id, Bool.and_eq_true, and_true] at hok
      obtain ⟨o0, o1, o2, o3, o4, o5, o6, o7⟩ := hok
      refine ⟨rfl, rfl, ?_⟩
      have e : txt (entN b0.toNat b1.toNat b2.toNat b3.toNat b4.toNat b5.toNat b6.toNat b7.toNat) = [(b0.toNat : Int), (b1.toNat : Int), (b2.toNat : Int), (b3.toNat : Int), (b4.toNat : Int), (b5.toNat : Int), (b6.toNat : Int), (b7.toNat : Int)] := by
        unfold txt entN
        simp only [sg_good _ _ o0, sg_good _ _ o1, sg_good _ _ o2, sg_good _ _ o3, sg_good _ _ o4, sg_good _ _ o5, sg_good _ _ o6, sg_good _ _ o7]
      rw [e]
      unfold strOfNums
      simp
    · intro hok
      rw [if_neg (by rw [hok]; decide)]
      refine ⟨rfl, fun _ he => ?_⟩
      rw [txt_zero] at he
      injection he with he
      injection he with he
      injection he with e0 he
      injection he with e1 he
      injection he with e2 he
      injection he with e3 he
      injection he with e4 he
      injection he with e5 he
      injection he with e6 he
      injection he with e7 he
      subst e0 e1 e2 e3 e4 e5 e6 e7
      revert hok
      decide
  · exact ⟨entZ, false, fun w => flags_size s w h8 hm, fun h => by simp at h, fun _ => ⟨rfl, fun h => absurd h h8⟩⟩
set_option maxHeartbeats 8000000 in
theorem texts_walk (E : Ent) (s : ByteArray) (w : World) (hm : s.size ≤ 9223372036854775807) : Calls Try.prog 5 #[pv E, .string s] w fun e w' => e = .returned (.bool true) ∧ Below w.heap.size w w' := by
  have h1 := fun w => text_any E w
  have h2 : ∀ w, Calls Try.prog 15 #[pv ⟨E.v, E.r, E.w, E.x, E.u, E.g, E.a, E.d, 0, 0⟩] w fun r w' => r = .returned (.string (strOfNums (txt E))) ∧ Below w.heap.size w w' := fun w => text_any _ w
  have h3 : ∀ w, Calls Try.prog 16 #[pv ⟨E.v, E.r, E.w, E.x, E.u, E.g, E.a, E.d, 0, 0⟩] w fun r w' => r = .returned (.string (strOfNums (txt E))) ∧ Below w.heap.size w w' := fun w => rtext_any _ w
  have h4 := fun w => flags_text E w
  obtain ⟨y, is, h5, hy, hn⟩ := flags_any s hm
  have h6 := fun w => rtext_any y w
  generalize strOfNums (txt E) = X at h1 h2 h3 h4
  obtain ⟨v, r, x1, x, u, g, a, d, rsw, ppn⟩ := E
  have hz : (if (50 : Int) < s.size then True else False) = (if (50 : Int) < s.size then True else False) := rfl
  clear hz
  unfold pv at h1 h2 h3 h4 ⊢
  dsimp only at h1 h2 h3 h4 ⊢
  have H1 := Lib.hid h1; have H2 := Lib.hid h2; have H3 := Lib.hid h3; have H4 := Lib.hid h4; clear h1 h2 h3 h4
  have HN := Lib.hid hn; have HY := Lib.hid hy; have H5 := Lib.hid h5; have H6 := Lib.hid h6; clear hn hy h5 h6
  by_cases h50 : (50 : Int) < s.size
  · go_enter Try.func5, Try.ntmps5
    go_wp2_with fail
    have nb0 : Blk (w.alloc (.cells #[.bool v, .bool r, .bool x1, .bool x, .bool u, .bool g, .bool a, .bool d, .int .i64 rsw, .int .u64 (ppn : Int)] 24)) (w.heap.size) [.bool v, .bool r, .bool x1, .bool x, .bool u, .bool g, .bool a, .bool d, .int .i64 rsw, .int .u64 (ppn : Int)] 24 := Blk.new w [.bool v, .bool r, .bool x1, .bool x, .bool u, .bool g, .bool a, .bool d, .int .i64 rsw, .int .u64 (ppn : Int)] 24
    have nls : Below w.heap.size w w := (Below.refl w.heap.size w)
    have nl0 := nls.alloc nls.size (.cells #[.bool v, .bool r, .bool x1, .bool x, .bool u, .bool g, .bool a, .bool d, .int .i64 rsw, .int .u64 (ppn : Int)] 24)
    have nl : Below w.heap.size w (w.alloc (.cells #[.bool v, .bool r, .bool x1, .bool x, .bool u, .bool g, .bool a, .bool d, .int .i64 rsw, .int .u64 (ppn : Int)] 24)) := nl0; clear nls nl0
    obtain ⟨B1, hB0⟩ : ∃ B, B = w.heap.size := ⟨_, rfl⟩
    obtain ⟨W1, hW⟩ : ∃ W, W = (w.alloc (.cells #[.bool v, .bool r, .bool x1, .bool x, .bool u, .bool g, .bool a, .bool d, .int .i64 rsw, .int .u64 (ppn : Int)] 24)) := ⟨_, rfl⟩
    rw [← hW] at nl nb0
    rw [← hB0] at nb0
    rw [← hW]
    try rw [← hB0]
    have K1_0 := Lib.hid nb0
    have G1 : Hid (w.heap.size ≤ B1) := Lib.hid (by have := (Nat.le_refl w.heap.size); omega)
    have L1 := Lib.hid nl
    clear nl hW nb0 hB0
    refine (first_any _).mono ?_
    rintro e w2 ⟨rfl, hb⟩
    have L2 := Lib.hid (L1.out.trans (hb.mono L1.out.size))
    have K2_0 := Lib.hid (K1_0.out.below hb K1_0.out.lt)
    clear hb K1_0
    go_wp2
    go_ret
    exact ⟨rfl, L2.out⟩
  · cases is
    · obtain ⟨rfl, hne⟩ := HN.out rfl
      have h5 := H5.out
      unfold pv entZ at h5
      dsimp only at h5
      have H5 := Lib.hid h5; clear h5
      by_cases h8 : s.size = 8
      · have f8 : ((s.size : Int) != 8) = false := by simp [h8]
        have h6 := H6.out
        unfold pv entZ at h6
        dsimp only at h6
        have e6 : (s.toList == (strOfNums (txt entZ)).toList) = false := (Lib.bytes_beq_false_iff _ _).2 (hne h8)
        rw [show strOfNums (txt ⟨false, false, false, false, false, false, false, false, 0, 0⟩) = strOfNums (txt entZ) from rfl] at h6
        generalize strOfNums (txt entZ) = Y at h6 e6
        have H6 := Lib.hid h6; clear h6 hne h8
        go_enter Try.func5, Try.ntmps5
        go_wp2_with fail
        have nb0 : Blk (w.alloc (.cells #[.bool v, .bool r, .bool x1, .bool x, .bool u, .bool g, .bool a, .bool d, .int .i64 rsw, .int .u64 (ppn : Int)] 24)) (w.heap.size) [.bool v, .bool r, .bool x1, .bool x, .bool u, .bool g, .bool a, .bool d, .int .i64 rsw, .int .u64 (ppn : Int)] 24 := Blk.new w [.bool v, .bool r, .bool x1, .bool x, .bool u, .bool g, .bool a, .bool d, .int .i64 rsw, .int .u64 (ppn : Int)] 24
        have nls : Below w.heap.size w w := (Below.refl w.heap.size w)
        have nl0 := nls.alloc nls.size (.cells #[.bool v, .bool r, .bool x1, .bool x, .bool u, .bool g, .bool a, .bool d, .int .i64 rsw, .int .u64 (ppn : Int)] 24)
        have nl : Below w.heap.size w (w.alloc (.cells #[.bool v, .bool r, .bool x1, .bool x, .bool u, .bool g, .bool a, .bool d, .int .i64 rsw, .int .u64 (ppn : Int)] 24)) := nl0; clear nls nl0
        obtain ⟨B3, hB0⟩ : ∃ B, B = w.heap.size := ⟨_, rfl⟩
        obtain ⟨W3, hW⟩ : ∃ W, W = (w.alloc (.cells #[.bool v, .bool r, .bool x1, .bool x, .bool u, .bool g, .bool a, .bool d, .int .i64 rsw, .int .u64 (ppn : Int)] 24)) := ⟨_, rfl⟩
        rw [← hW] at nl nb0
        rw [← hB0] at nb0
        rw [← hW]
        try rw [← hB0]
        have K3_0 := Lib.hid nb0
        have G3 : Hid (w.heap.size ≤ B3) := Lib.hid (by have := (Nat.le_refl w.heap.size); omega)
        have L3 := Lib.hid nl
        clear nl hW nb0 hB0
        refine (first_any _).mono ?_
        rintro e w4 ⟨rfl, hb⟩
        have L4 := Lib.hid (L3.out.trans (hb.mono L3.out.size))
        have K4_0 := Lib.hid (K3_0.out.below hb K3_0.out.lt)
        clear hb K3_0
        have m0_0 : w4.cell? ⟨B3, 0, none⟩ = some _ := K4_0.out.cell 0
        have m0_1 : w4.cell? ⟨B3, 1, none⟩ = some _ := K4_0.out.cell 1
        have m0_2 : w4.cell? ⟨B3, 2, none⟩ = some _ := K4_0.out.cell 2
        have m0_3 : w4.cell? ⟨B3, 3, none⟩ = some _ := K4_0.out.cell 3
        have m0_4 : w4.cell? ⟨B3, 4, none⟩ = some _ := K4_0.out.cell 4
        have m0_5 : w4.cell? ⟨B3, 5, none⟩ = some _ := K4_0.out.cell 5
        have m0_6 : w4.cell? ⟨B3, 6, none⟩ = some _ := K4_0.out.cell 6
        have m0_7 : w4.cell? ⟨B3, 7, none⟩ = some _ := K4_0.out.cell 7
        have m0_8 : w4.cell? ⟨B3, 8, none⟩ = some _ := K4_0.out.cell 8
        have m0_9 : w4.cell? ⟨B3, 9, none⟩ = some _ := K4_0.out.cell 9
        have mlt0 : B3 < w4.heap.size := K4_0.out.lt
        go_wp2_with fail
        clear m0_0 m0_1 m0_2 m0_3 m0_4 m0_5 m0_6 m0_7 m0_8 m0_9 mlt0
        refine (H1.out _).mono ?_
        rintro e w5 ⟨rfl, hb⟩
        have L5 := Lib.hid (L4.out.trans (hb.mono L4.out.size))
        have K5_0 := Lib.hid (K4_0.out.below hb K4_0.out.lt)
        clear hb K4_0
        go_wp2_with fail
        refine (H4.out _).mono ?_
        rintro e w6 ⟨rfl, hb⟩
        have L6 := Lib.hid (L5.out.trans (hb.mono L5.out.size))
        have K6_0 := Lib.hid (K5_0.out.below hb K5_0.out.lt)
        clear hb K5_0
        have m0_0 : w6.cell? ⟨B3, 0, none⟩ = some _ := K6_0.out.cell 0
        have m0_1 : w6.cell? ⟨B3, 1, none⟩ = some _ := K6_0.out.cell 1
        have m0_2 : w6.cell? ⟨B3, 2, none⟩ = some _ := K6_0.out.cell 2
        have m0_3 : w6.cell? ⟨B3, 3, none⟩ = some _ := K6_0.out.cell 3
        have m0_4 : w6.cell? ⟨B3, 4, none⟩ = some _ := K6_0.out.cell 4
        have m0_5 : w6.cell? ⟨B3, 5, none⟩ = some _ := K6_0.out.cell 5
        have m0_6 : w6.cell? ⟨B3, 6, none⟩ = some _ := K6_0.out.cell 6
        have m0_7 : w6.cell? ⟨B3, 7, none⟩ = some _ := K6_0.out.cell 7
        have m0_8 : w6.cell? ⟨B3, 8, none⟩ = some _ := K6_0.out.cell 8
        have m0_9 : w6.cell? ⟨B3, 9, none⟩ = some _ := K6_0.out.cell 9
        have mlt0 : B3 < w6.heap.size := K6_0.out.lt
        have mf0 : ∀ o, w6.frozen? ⟨B3, o, none⟩ = false := fun o => K6_0.out.free o
        go_wp2
        clear m0_0 m0_1 m0_2 m0_3 m0_4 m0_5 m0_6 m0_7 m0_8 m0_9 mlt0 mf0
        have nb0 : Blk (((w6.setCell ⟨B3, 8, none⟩ (.int .i64 0)).setCell ⟨B3, 9, none⟩ (.int .u64 0)).alloc (.cells #[.bool v, .bool r, .bool x1, .bool x, .bool u, .bool g, .bool a, .bool d, .int .i64 0, .int .u64 0] 24)) (w6.heap.size) [.bool v, .bool r, .bool x1, .bool x, .bool u, .bool g, .bool a, .bool d, .int .i64 0, .int .u64 0] 24 := Blk.nextn ((w6.setCell ⟨B3, 8, none⟩ (.int .i64 0)).setCell ⟨B3, 9, none⟩ (.int .u64 0)) (w6.heap.size) [.bool v, .bool r, .bool x1, .bool x, .bool u, .bool g, .bool a, .bool d, .int .i64 0, .int .u64 0] 24 (by simp [World.setCell])
        have nls : Below w.heap.size w ((w6.setCell ⟨B3, 8, none⟩ (.int .i64 0)).setCell ⟨B3, 9, none⟩ (.int .u64 0)) := (Below.setCell (Below.setCell L6.out G3.out (.int .i64 0)) G3.out (.int .u64 0))
        have nl0 := nls.alloc nls.size (.cells #[.bool v, .bool r, .bool x1, .bool x, .bool u, .bool g, .bool a, .bool d, .int .i64 0, .int .u64 0] 24)
        have nl : Below w.heap.size w (((w6.setCell ⟨B3, 8, none⟩ (.int .i64 0)).setCell ⟨B3, 9, none⟩ (.int .u64 0)).alloc (.cells #[.bool v, .bool r, .bool x1, .bool x, .bool u, .bool g, .bool a, .bool d, .int .i64 0, .int .u64 0] 24)) := nl0; clear nls nl0
        have o0 : Blk (((w6.setCell ⟨B3, 8, none⟩ (.int .i64 0)).setCell ⟨B3, 9, none⟩ (.int .u64 0)).alloc (.cells #[.bool v, .bool r, .bool x1, .bool x, .bool u, .bool g, .bool a, .bool d, .int .i64 0, .int .u64 0] 24)) B3 [.bool v, .bool r, .bool x1, .bool x, .bool u, .bool g, .bool a, .bool d, .int .i64 0, .int .u64 0] 24 := (((K6_0.out.set 8 (.int .i64 0)).set 9 (.int .u64 0)).alloc (.cells #[.bool v, .bool r, .bool x1, .bool x, .bool u, .bool g, .bool a, .bool d, .int .i64 0, .int .u64 0] 24))
        have d7_0 : B3 < w6.heap.size := K6_0.out.lt
        obtain ⟨B7, hB0⟩ : ∃ B, B = w6.heap.size := ⟨_, rfl⟩
        obtain ⟨W7, hW⟩ : ∃ W, W = (((w6.setCell ⟨B3, 8, none⟩ (.int .i64 0)).setCell ⟨B3, 9, none⟩ (.int .u64 0)).alloc (.cells #[.bool v, .bool r, .bool x1, .bool x, .bool u, .bool g, .bool a, .bool d, .int .i64 0, .int .u64 0] 24)) := ⟨_, rfl⟩
        rw [← hW] at nl nb0 o0
        rw [← hB0] at nb0
        rw [← hW]
        try rw [← hB0]
        have K7_0 := Lib.hid o0
        have K7_1 := Lib.hid nb0
        have G7 : Hid (w.heap.size ≤ B7) := Lib.hid (by have := L6.out.size; omega)
        have x7_0_0 : B3 ≠ B7 := by omega
        have X7_0_0 := Lib.hid x7_0_0; clear x7_0_0
        have L7 := Lib.hid nl
        clear nl hW nb0 hB0 o0 d7_0 K6_0
        refine wp_region_held_drew (S := fun w' => Blk w' B3 [.bool v, .bool r, .bool x1, .bool x, .bool u, .bool g, .bool a, .bool d, .int .i64 0, .int .u64 0] 24 ∧ Blk w' B7 [.bool v, .bool r, .bool x1, .bool x, .bool u, .bool g, .bool a, .bool d, .int .i64 0, .int .u64 0] 24) (by kernel_rfl) ⟨K7_0.out, K7_1.out⟩ (fun hHeld => ?_)
        simp only [List.size_toArray, List.length_cons, List.length_nil, Nat.reduceAdd]
        rw [show Array.replicate 14 false = [false, false, false, false, false, false, false, false, false, false, false, false, false, false].toArray from rfl]
        refine wpAnyH_take (i := 0) (v := _) rfl (by kernel_rfl) (by kernel_rfl) (by kernel_rfl) (fun _ _ _ h => h) (Or.inl ⟨by rfl, fun w hSw => yield_ent _ _ _ rfl rfl hSw.1⟩) (by assumption) ?_
        try simp only [Act.put, List.setIfInBounds_toArray, List.set_cons_zero, List.set_cons_succ, List.getElem_toArray, List.getElem_cons_succ, List.getElem_cons_zero]
        refine wpAnyH_take (i := 2) (v := _) rfl (by kernel_rfl) (by kernel_rfl) (by kernel_rfl) (fun _ _ _ h => h) (Or.inl ⟨by rfl, fun w hSw => yield_ent _ _ _ rfl rfl hSw.1⟩) (by assumption) ?_
        try simp only [Act.put, List.setIfInBounds_toArray, List.set_cons_zero, List.set_cons_succ, List.getElem_toArray, List.getElem_cons_succ, List.getElem_cons_zero]
        refine wpAnyH_ready (rs := [1]) (by kernel_rfl) (by simp) ?_
        refine AllReadyH.cons rfl (fun K hK => ?_) AllReadyH.nil
        go_simp
        refine (H2.out _).mono ?_
        rintro e w8 ⟨rfl, hb⟩
        have L8 := Lib.hid ((L7.out.drew).trans (hb.mono L7.out.size))
        have K8_0 := Lib.hid ((Blk.drewN K7_0.out 1).below hb K7_0.out.lt)
        have K8_1 := Lib.hid ((Blk.drewN K7_1.out 1).below hb K7_1.out.lt)
        clear hb K7_0 K7_1
        refine hK.out _ _ ⟨K8_0.out, K8_1.out⟩ (fun hS1 => ?_)
        clear hK K
        refine wpAnyH_ready (rs := [3]) (by kernel_rfl) (by simp) ?_
        refine AllReadyH.cons rfl (fun K hK => ?_) AllReadyH.nil
        go_simp
        refine (H3.out _).mono ?_
        rintro e w9 ⟨rfl, hb⟩
        have L9 := Lib.hid (L8.out.trans (hb.mono L8.out.size))
        have K9_0 := Lib.hid (K8_0.out.below hb K8_0.out.lt)
        have K9_1 := Lib.hid (K8_1.out.below hb K8_1.out.lt)
        clear hb K8_0 K8_1
        refine hK.out _ _ ⟨K9_0.out, K9_1.out⟩ (fun hS3 => ?_)
        clear hK K
        refine wpAnyH_take (i := 4) (v := ?_) rfl (by kernel_rfl) (by kernel_rfl) (by kernel_rfl) (fun _ _ _ h => h) (Or.inl ⟨by rfl, ?yldq⟩) (by assumption) ?_
        case yldq => (intro w hSw; (try dsimp only at hSw); go_simp; try with_reducible rfl)
        try simp only [Act.put, List.setIfInBounds_toArray, List.set_cons_zero, List.set_cons_succ, List.getElem_toArray, List.getElem_cons_succ, List.getElem_cons_zero]
        refine wpAnyH_take (i := 5) (v := ?_) rfl (by kernel_rfl) (by kernel_rfl) (by kernel_rfl) (fun _ _ _ h => h) (Or.inl ⟨by rfl, ?yldq⟩) (by assumption) ?_
        case yldq => (intro w hSw; (try dsimp only at hSw); go_simp; try with_reducible rfl)
        try simp only [Act.put, List.setIfInBounds_toArray, List.set_cons_zero, List.set_cons_succ, List.getElem_toArray, List.getElem_cons_succ, List.getElem_cons_zero]
        refine wpAnyH_take (i := 6) (v := _) rfl (by kernel_rfl) (by kernel_rfl) (by kernel_rfl) (fun _ _ _ h => h) (Or.inl ⟨by rfl, fun w hSw => yield_ent _ _ _ rfl rfl hSw.2⟩) (by assumption) ?_
        try simp only [Act.put, List.setIfInBounds_toArray, List.set_cons_zero, List.set_cons_succ, List.getElem_toArray, List.getElem_cons_succ, List.getElem_cons_zero]
        refine wpAnyH_take (i := 7) (v := _) rfl (by kernel_rfl) (by kernel_rfl) (by kernel_rfl) (fun _ _ _ h => h) (Or.inl ⟨by rfl, fun w hSw => yield_ent _ _ _ rfl rfl hSw.1⟩) (by assumption) ?_
        try simp only [Act.put, List.setIfInBounds_toArray, List.set_cons_zero, List.set_cons_succ, List.getElem_toArray, List.getElem_cons_succ, List.getElem_cons_zero]
        refine wpAnyH_take (i := 8) (v := ?_) rfl (by kernel_rfl) (by kernel_rfl) (by kernel_rfl) (fun _ _ _ h => h) (Or.inl ⟨by rfl, ?yldq⟩) (by assumption) ?_
        case yldq => (intro w hSw; (try dsimp only at hSw); go_simp; try with_reducible rfl)
        try simp only [Act.put, List.setIfInBounds_toArray, List.set_cons_zero, List.set_cons_succ, List.getElem_toArray, List.getElem_cons_succ, List.getElem_cons_zero]
        refine wpAnyH_take (i := 9) (v := ?_) rfl (by kernel_rfl) (by kernel_rfl) (by kernel_rfl) (fun _ _ _ h => h) (Or.inl ⟨by rfl, ?yldq⟩) (by assumption) ?_
        case yldq => (intro w hSw; (try dsimp only at hSw); go_simp; try with_reducible rfl)
        try simp only [Act.put, List.setIfInBounds_toArray, List.set_cons_zero, List.set_cons_succ, List.getElem_toArray, List.getElem_cons_succ, List.getElem_cons_zero]
        refine wpAnyH_take (i := 10) (v := ?_) rfl (by kernel_rfl) (by kernel_rfl) (by kernel_rfl) (fun _ _ _ h => h) (Or.inl ⟨by rfl, ?yldq⟩) (by assumption) ?_
        case yldq => (intro w hSw; (try dsimp only at hSw); go_simp; try with_reducible rfl)
        try simp only [Act.put, List.setIfInBounds_toArray, List.set_cons_zero, List.set_cons_succ, List.getElem_toArray, List.getElem_cons_succ, List.getElem_cons_zero]
        refine wpAnyH_take (i := 11) (v := ?_) rfl (by kernel_rfl) (by kernel_rfl) (by kernel_rfl) (fun _ _ _ h => h) (Or.inl ⟨by rfl, ?yldq⟩) (by assumption) ?_
        case yldq => (intro w hSw; (try dsimp only at hSw); go_simp; try with_reducible rfl)
        try simp only [Act.put, List.setIfInBounds_toArray, List.set_cons_zero, List.set_cons_succ, List.getElem_toArray, List.getElem_cons_succ, List.getElem_cons_zero]
        refine wpAnyH_take (i := 12) (v := ?_) rfl (by kernel_rfl) (by kernel_rfl) (by kernel_rfl) (fun _ _ _ h => h) (Or.inl ⟨by rfl, ?yldq⟩) (by assumption) ?_
        case yldq => (intro w hSw; (try dsimp only at hSw); go_simp; try with_reducible rfl)
        try simp only [Act.put, List.setIfInBounds_toArray, List.set_cons_zero, List.set_cons_succ, List.getElem_toArray, List.getElem_cons_succ, List.getElem_cons_zero]
        refine wpAnyH_take (i := 13) (v := ?_) rfl (by kernel_rfl) (by kernel_rfl) (by kernel_rfl) (fun _ _ _ h => h) (Or.inl ⟨by rfl, ?yldq⟩) (by assumption) ?_
        case yldq => (intro w hSw; (try dsimp only at hSw); go_simp; try with_reducible rfl)
        try simp only [Act.put, List.setIfInBounds_toArray, List.set_cons_zero, List.set_cons_succ, List.getElem_toArray, List.getElem_cons_succ, List.getElem_cons_zero]
        refine wpAnyH_done (by kernel_rfl) ?_ _
        go_wp2_with fail
        refine (H5.out _).mono ?_
        rintro e w10 ⟨rfl, hb⟩
        have L10 := Lib.hid (L9.out.trans (hb.mono L9.out.size))
        have K10_0 := Lib.hid (K9_0.out.below hb K9_0.out.lt)
        have K10_1 := Lib.hid (K9_1.out.below hb K9_1.out.lt)
        clear hb K9_0 K9_1
        go_wp2_with fail
        have nb0 : Blk (w10.alloc (.cells #[.bool false, .bool false, .bool false, .bool false, .bool false, .bool false, .bool false, .bool false, .int .i64 0, .int .u64 0] 24)) (w10.heap.size) [.bool false, .bool false, .bool false, .bool false, .bool false, .bool false, .bool false, .bool false, .int .i64 0, .int .u64 0] 24 := Blk.new w10 [.bool false, .bool false, .bool false, .bool false, .bool false, .bool false, .bool false, .bool false, .int .i64 0, .int .u64 0] 24
        have nls : Below w.heap.size w w10 := L10.out
        have nl0 := nls.alloc nls.size (.cells #[.bool false, .bool false, .bool false, .bool false, .bool false, .bool false, .bool false, .bool false, .int .i64 0, .int .u64 0] 24)
        have nl : Below w.heap.size w (w10.alloc (.cells #[.bool false, .bool false, .bool false, .bool false, .bool false, .bool false, .bool false, .bool false, .int .i64 0, .int .u64 0] 24)) := nl0; clear nls nl0
        have o0 : Blk (w10.alloc (.cells #[.bool false, .bool false, .bool false, .bool false, .bool false, .bool false, .bool false, .bool false, .int .i64 0, .int .u64 0] 24)) B3 [.bool v, .bool r, .bool x1, .bool x, .bool u, .bool g, .bool a, .bool d, .int .i64 0, .int .u64 0] 24 := (K10_0.out.alloc (.cells #[.bool false, .bool false, .bool false, .bool false, .bool false, .bool false, .bool false, .bool false, .int .i64 0, .int .u64 0] 24))
        have d11_0 : B3 < w10.heap.size := K10_0.out.lt
        have o1 : Blk (w10.alloc (.cells #[.bool false, .bool false, .bool false, .bool false, .bool false, .bool false, .bool false, .bool false, .int .i64 0, .int .u64 0] 24)) B7 [.bool v, .bool r, .bool x1, .bool x, .bool u, .bool g, .bool a, .bool d, .int .i64 0, .int .u64 0] 24 := (K10_1.out.alloc (.cells #[.bool false, .bool false, .bool false, .bool false, .bool false, .bool false, .bool false, .bool false, .int .i64 0, .int .u64 0] 24))
        have d11_1 : B7 < w10.heap.size := K10_1.out.lt
        obtain ⟨B11, hB0⟩ : ∃ B, B = w10.heap.size := ⟨_, rfl⟩
        obtain ⟨W11, hW⟩ : ∃ W, W = (w10.alloc (.cells #[.bool false, .bool false, .bool false, .bool false, .bool false, .bool false, .bool false, .bool false, .int .i64 0, .int .u64 0] 24)) := ⟨_, rfl⟩
        rw [← hW] at nl nb0 o0 o1
        rw [← hB0] at nb0
        rw [← hW]
        try rw [← hB0]
        have K11_0 := Lib.hid o0
        have K11_1 := Lib.hid o1
        have K11_2 := Lib.hid nb0
        have G11 : Hid (w.heap.size ≤ B11) := Lib.hid (by have := L10.out.size; omega)
        have x11_0_0 : B3 ≠ B11 := by omega
        have x11_1_0 : B7 ≠ B11 := by omega
        have X11_0_0 := Lib.hid x11_0_0; clear x11_0_0
        have X11_1_0 := Lib.hid x11_1_0; clear x11_1_0
        have L11 := Lib.hid nl
        clear nl hW nb0 hB0 o0 d11_0 o1 d11_1 K10_0 K10_1
        refine (H6.out _).mono ?_
        rintro e w12 ⟨rfl, hb⟩
        have L12 := Lib.hid (L11.out.trans (hb.mono L11.out.size))
        have K12_0 := Lib.hid (K11_0.out.below hb K11_0.out.lt)
        have K12_1 := Lib.hid (K11_1.out.below hb K11_1.out.lt)
        have K12_2 := Lib.hid (K11_2.out.below hb K11_2.out.lt)
        clear hb K11_0 K11_1 K11_2
        go_wp2
        go_ret
        exact ⟨rfl, L12.out⟩
      · have f8 : ((s.size : Int) != 8) = true := by simp; omega
        clear hne h8
        go_enter Try.func5, Try.ntmps5
        go_wp2_with fail
        have nb0 : Blk (w.alloc (.cells #[.bool v, .bool r, .bool x1, .bool x, .bool u, .bool g, .bool a, .bool d, .int .i64 rsw, .int .u64 (ppn : Int)] 24)) (w.heap.size) [.bool v, .bool r, .bool x1, .bool x, .bool u, .bool g, .bool a, .bool d, .int .i64 rsw, .int .u64 (ppn : Int)] 24 := Blk.new w [.bool v, .bool r, .bool x1, .bool x, .bool u, .bool g, .bool a, .bool d, .int .i64 rsw, .int .u64 (ppn : Int)] 24
        have nls : Below w.heap.size w w := (Below.refl w.heap.size w)
        have nl0 := nls.alloc nls.size (.cells #[.bool v, .bool r, .bool x1, .bool x, .bool u, .bool g, .bool a, .bool d, .int .i64 rsw, .int .u64 (ppn : Int)] 24)
        have nl : Below w.heap.size w (w.alloc (.cells #[.bool v, .bool r, .bool x1, .bool x, .bool u, .bool g, .bool a, .bool d, .int .i64 rsw, .int .u64 (ppn : Int)] 24)) := nl0; clear nls nl0
        obtain ⟨B13, hB0⟩ : ∃ B, B = w.heap.size := ⟨_, rfl⟩
        obtain ⟨W13, hW⟩ : ∃ W, W = (w.alloc (.cells #[.bool v, .bool r, .bool x1, .bool x, .bool u, .bool g, .bool a, .bool d, .int .i64 rsw, .int .u64 (ppn : Int)] 24)) := ⟨_, rfl⟩
        rw [← hW] at nl nb0
        rw [← hB0] at nb0
        rw [← hW]
        try rw [← hB0]
        have K13_0 := Lib.hid nb0
        have G13 : Hid (w.heap.size ≤ B13) := Lib.hid (by have := (Nat.le_refl w.heap.size); omega)
        have L13 := Lib.hid nl
        clear nl hW nb0 hB0
        refine (first_any _).mono ?_
        rintro e w14 ⟨rfl, hb⟩
        have L14 := Lib.hid (L13.out.trans (hb.mono L13.out.size))
        have K14_0 := Lib.hid (K13_0.out.below hb K13_0.out.lt)
        clear hb K13_0
        have m0_0 : w14.cell? ⟨B13, 0, none⟩ = some _ := K14_0.out.cell 0
        have m0_1 : w14.cell? ⟨B13, 1, none⟩ = some _ := K14_0.out.cell 1
        have m0_2 : w14.cell? ⟨B13, 2, none⟩ = some _ := K14_0.out.cell 2
        have m0_3 : w14.cell? ⟨B13, 3, none⟩ = some _ := K14_0.out.cell 3
        have m0_4 : w14.cell? ⟨B13, 4, none⟩ = some _ := K14_0.out.cell 4
        have m0_5 : w14.cell? ⟨B13, 5, none⟩ = some _ := K14_0.out.cell 5
        have m0_6 : w14.cell? ⟨B13, 6, none⟩ = some _ := K14_0.out.cell 6
        have m0_7 : w14.cell? ⟨B13, 7, none⟩ = some _ := K14_0.out.cell 7
        have m0_8 : w14.cell? ⟨B13, 8, none⟩ = some _ := K14_0.out.cell 8
        have m0_9 : w14.cell? ⟨B13, 9, none⟩ = some _ := K14_0.out.cell 9
        have mlt0 : B13 < w14.heap.size := K14_0.out.lt
        go_wp2_with fail
        clear m0_0 m0_1 m0_2 m0_3 m0_4 m0_5 m0_6 m0_7 m0_8 m0_9 mlt0
        refine (H1.out _).mono ?_
        rintro e w15 ⟨rfl, hb⟩
        have L15 := Lib.hid (L14.out.trans (hb.mono L14.out.size))
        have K15_0 := Lib.hid (K14_0.out.below hb K14_0.out.lt)
        clear hb K14_0
        go_wp2_with fail
        refine (H4.out _).mono ?_
        rintro e w16 ⟨rfl, hb⟩
        have L16 := Lib.hid (L15.out.trans (hb.mono L15.out.size))
        have K16_0 := Lib.hid (K15_0.out.below hb K15_0.out.lt)
        clear hb K15_0
        have m0_0 : w16.cell? ⟨B13, 0, none⟩ = some _ := K16_0.out.cell 0
        have m0_1 : w16.cell? ⟨B13, 1, none⟩ = some _ := K16_0.out.cell 1
        have m0_2 : w16.cell? ⟨B13, 2, none⟩ = some _ := K16_0.out.cell 2
        have m0_3 : w16.cell? ⟨B13, 3, none⟩ = some _ := K16_0.out.cell 3
        have m0_4 : w16.cell? ⟨B13, 4, none⟩ = some _ := K16_0.out.cell 4
        have m0_5 : w16.cell? ⟨B13, 5, none⟩ = some _ := K16_0.out.cell 5
        have m0_6 : w16.cell? ⟨B13, 6, none⟩ = some _ := K16_0.out.cell 6
        have m0_7 : w16.cell? ⟨B13, 7, none⟩ = some _ := K16_0.out.cell 7
        have m0_8 : w16.cell? ⟨B13, 8, none⟩ = some _ := K16_0.out.cell 8
        have m0_9 : w16.cell? ⟨B13, 9, none⟩ = some _ := K16_0.out.cell 9
        have mlt0 : B13 < w16.heap.size := K16_0.out.lt
        have mf0 : ∀ o, w16.frozen? ⟨B13, o, none⟩ = false := fun o => K16_0.out.free o
        go_wp2
        clear m0_0 m0_1 m0_2 m0_3 m0_4 m0_5 m0_6 m0_7 m0_8 m0_9 mlt0 mf0
        have nb0 : Blk (((w16.setCell ⟨B13, 8, none⟩ (.int .i64 0)).setCell ⟨B13, 9, none⟩ (.int .u64 0)).alloc (.cells #[.bool v, .bool r, .bool x1, .bool x, .bool u, .bool g, .bool a, .bool d, .int .i64 0, .int .u64 0] 24)) (w16.heap.size) [.bool v, .bool r, .bool x1, .bool x, .bool u, .bool g, .bool a, .bool d, .int .i64 0, .int .u64 0] 24 := Blk.nextn ((w16.setCell ⟨B13, 8, none⟩ (.int .i64 0)).setCell ⟨B13, 9, none⟩ (.int .u64 0)) (w16.heap.size) [.bool v, .bool r, .bool x1, .bool x, .bool u, .bool g, .bool a, .bool d, .int .i64 0, .int .u64 0] 24 (by simp [World.setCell])
        have nls : Below w.heap.size w ((w16.setCell ⟨B13, 8, none⟩ (.int .i64 0)).setCell ⟨B13, 9, none⟩ (.int .u64 0)) := (Below.setCell (Below.setCell L16.out G13.out (.int .i64 0)) G13.out (.int .u64 0))
        have nl0 := nls.alloc nls.size (.cells #[.bool v, .bool r, .bool x1, .bool x, .bool u, .bool g, .bool a, .bool d, .int .i64 0, .int .u64 0] 24)
        have nl : Below w.heap.size w (((w16.setCell ⟨B13, 8, none⟩ (.int .i64 0)).setCell ⟨B13, 9, none⟩ (.int .u64 0)).alloc (.cells #[.bool v, .bool r, .bool x1, .bool x, .bool u, .bool g, .bool a, .bool d, .int .i64 0, .int .u64 0] 24)) := nl0; clear nls nl0
        have o0 : Blk (((w16.setCell ⟨B13, 8, none⟩ (.int .i64 0)).setCell ⟨B13, 9, none⟩ (.int .u64 0)).alloc (.cells #[.bool v, .bool r, .bool x1, .bool x, .bool u, .bool g, .bool a, .bool d, .int .i64 0, .int .u64 0] 24)) B13 [.bool v, .bool r, .bool x1, .bool x, .bool u, .bool g, .bool a, .bool d, .int .i64 0, .int .u64 0] 24 := (((K16_0.out.set 8 (.int .i64 0)).set 9 (.int .u64 0)).alloc (.cells #[.bool v, .bool r, .bool x1, .bool x, .bool u, .bool g, .bool a, .bool d, .int .i64 0, .int .u64 0] 24))
        have d17_0 : B13 < w16.heap.size := K16_0.out.lt
        obtain ⟨B17, hB0⟩ : ∃ B, B = w16.heap.size := ⟨_, rfl⟩
        obtain ⟨W17, hW⟩ : ∃ W, W = (((w16.setCell ⟨B13, 8, none⟩ (.int .i64 0)).setCell ⟨B13, 9, none⟩ (.int .u64 0)).alloc (.cells #[.bool v, .bool r, .bool x1, .bool x, .bool u, .bool g, .bool a, .bool d, .int .i64 0, .int .u64 0] 24)) := ⟨_, rfl⟩
        rw [← hW] at nl nb0 o0
        rw [← hB0] at nb0
        rw [← hW]
        try rw [← hB0]
        have K17_0 := Lib.hid o0
        have K17_1 := Lib.hid nb0
        have G17 : Hid (w.heap.size ≤ B17) := Lib.hid (by have := L16.out.size; omega)
        have x17_0_0 : B13 ≠ B17 := by omega
        have X17_0_0 := Lib.hid x17_0_0; clear x17_0_0
        have L17 := Lib.hid nl
        clear nl hW nb0 hB0 o0 d17_0 K16_0
        refine wp_region_held_drew (S := fun w' => Blk w' B13 [.bool v, .bool r, .bool x1, .bool x, .bool u, .bool g, .bool a, .bool d, .int .i64 0, .int .u64 0] 24 ∧ Blk w' B17 [.bool v, .bool r, .bool x1, .bool x, .bool u, .bool g, .bool a, .bool d, .int .i64 0, .int .u64 0] 24) (by kernel_rfl) ⟨K17_0.out, K17_1.out⟩ (fun hHeld => ?_)
        simp only [List.size_toArray, List.length_cons, List.length_nil, Nat.reduceAdd]
        rw [show Array.replicate 14 false = [false, false, false, false, false, false, false, false, false, false, false, false, false, false].toArray from rfl]
        refine wpAnyH_take (i := 0) (v := _) rfl (by kernel_rfl) (by kernel_rfl) (by kernel_rfl) (fun _ _ _ h => h) (Or.inl ⟨by rfl, fun w hSw => yield_ent _ _ _ rfl rfl hSw.1⟩) (by assumption) ?_
        try simp only [Act.put, List.setIfInBounds_toArray, List.set_cons_zero, List.set_cons_succ, List.getElem_toArray, List.getElem_cons_succ, List.getElem_cons_zero]
        refine wpAnyH_take (i := 2) (v := _) rfl (by kernel_rfl) (by kernel_rfl) (by kernel_rfl) (fun _ _ _ h => h) (Or.inl ⟨by rfl, fun w hSw => yield_ent _ _ _ rfl rfl hSw.1⟩) (by assumption) ?_
        try simp only [Act.put, List.setIfInBounds_toArray, List.set_cons_zero, List.set_cons_succ, List.getElem_toArray, List.getElem_cons_succ, List.getElem_cons_zero]
        refine wpAnyH_ready (rs := [1]) (by kernel_rfl) (by simp) ?_
        refine AllReadyH.cons rfl (fun K hK => ?_) AllReadyH.nil
        go_simp
        refine (H2.out _).mono ?_
        rintro e w18 ⟨rfl, hb⟩
        have L18 := Lib.hid ((L17.out.drew).trans (hb.mono L17.out.size))
        have K18_0 := Lib.hid ((Blk.drewN K17_0.out 1).below hb K17_0.out.lt)
        have K18_1 := Lib.hid ((Blk.drewN K17_1.out 1).below hb K17_1.out.lt)
        clear hb K17_0 K17_1
        refine hK.out _ _ ⟨K18_0.out, K18_1.out⟩ (fun hS1 => ?_)
        clear hK K
        refine wpAnyH_ready (rs := [3]) (by kernel_rfl) (by simp) ?_
        refine AllReadyH.cons rfl (fun K hK => ?_) AllReadyH.nil
        go_simp
        refine (H3.out _).mono ?_
        rintro e w19 ⟨rfl, hb⟩
        have L19 := Lib.hid (L18.out.trans (hb.mono L18.out.size))
        have K19_0 := Lib.hid (K18_0.out.below hb K18_0.out.lt)
        have K19_1 := Lib.hid (K18_1.out.below hb K18_1.out.lt)
        clear hb K18_0 K18_1
        refine hK.out _ _ ⟨K19_0.out, K19_1.out⟩ (fun hS3 => ?_)
        clear hK K
        refine wpAnyH_take (i := 4) (v := ?_) rfl (by kernel_rfl) (by kernel_rfl) (by kernel_rfl) (fun _ _ _ h => h) (Or.inl ⟨by rfl, ?yldq⟩) (by assumption) ?_
        case yldq => (intro w hSw; (try dsimp only at hSw); go_simp; try with_reducible rfl)
        try simp only [Act.put, List.setIfInBounds_toArray, List.set_cons_zero, List.set_cons_succ, List.getElem_toArray, List.getElem_cons_succ, List.getElem_cons_zero]
        refine wpAnyH_take (i := 5) (v := ?_) rfl (by kernel_rfl) (by kernel_rfl) (by kernel_rfl) (fun _ _ _ h => h) (Or.inl ⟨by rfl, ?yldq⟩) (by assumption) ?_
        case yldq => (intro w hSw; (try dsimp only at hSw); go_simp; try with_reducible rfl)
        try simp only [Act.put, List.setIfInBounds_toArray, List.set_cons_zero, List.set_cons_succ, List.getElem_toArray, List.getElem_cons_succ, List.getElem_cons_zero]
        refine wpAnyH_take (i := 6) (v := _) rfl (by kernel_rfl) (by kernel_rfl) (by kernel_rfl) (fun _ _ _ h => h) (Or.inl ⟨by rfl, fun w hSw => yield_ent _ _ _ rfl rfl hSw.2⟩) (by assumption) ?_
        try simp only [Act.put, List.setIfInBounds_toArray, List.set_cons_zero, List.set_cons_succ, List.getElem_toArray, List.getElem_cons_succ, List.getElem_cons_zero]
        refine wpAnyH_take (i := 7) (v := _) rfl (by kernel_rfl) (by kernel_rfl) (by kernel_rfl) (fun _ _ _ h => h) (Or.inl ⟨by rfl, fun w hSw => yield_ent _ _ _ rfl rfl hSw.1⟩) (by assumption) ?_
        try simp only [Act.put, List.setIfInBounds_toArray, List.set_cons_zero, List.set_cons_succ, List.getElem_toArray, List.getElem_cons_succ, List.getElem_cons_zero]
        refine wpAnyH_take (i := 8) (v := ?_) rfl (by kernel_rfl) (by kernel_rfl) (by kernel_rfl) (fun _ _ _ h => h) (Or.inl ⟨by rfl, ?yldq⟩) (by assumption) ?_
        case yldq => (intro w hSw; (try dsimp only at hSw); go_simp; try with_reducible rfl)
        try simp only [Act.put, List.setIfInBounds_toArray, List.set_cons_zero, List.set_cons_succ, List.getElem_toArray, List.getElem_cons_succ, List.getElem_cons_zero]
        refine wpAnyH_take (i := 9) (v := ?_) rfl (by kernel_rfl) (by kernel_rfl) (by kernel_rfl) (fun _ _ _ h => h) (Or.inl ⟨by rfl, ?yldq⟩) (by assumption) ?_
        case yldq => (intro w hSw; (try dsimp only at hSw); go_simp; try with_reducible rfl)
        try simp only [Act.put, List.setIfInBounds_toArray, List.set_cons_zero, List.set_cons_succ, List.getElem_toArray, List.getElem_cons_succ, List.getElem_cons_zero]
        refine wpAnyH_take (i := 10) (v := ?_) rfl (by kernel_rfl) (by kernel_rfl) (by kernel_rfl) (fun _ _ _ h => h) (Or.inl ⟨by rfl, ?yldq⟩) (by assumption) ?_
        case yldq => (intro w hSw; (try dsimp only at hSw); go_simp; try with_reducible rfl)
        try simp only [Act.put, List.setIfInBounds_toArray, List.set_cons_zero, List.set_cons_succ, List.getElem_toArray, List.getElem_cons_succ, List.getElem_cons_zero]
        refine wpAnyH_take (i := 11) (v := ?_) rfl (by kernel_rfl) (by kernel_rfl) (by kernel_rfl) (fun _ _ _ h => h) (Or.inl ⟨by rfl, ?yldq⟩) (by assumption) ?_
        case yldq => (intro w hSw; (try dsimp only at hSw); go_simp; try with_reducible rfl)
        try simp only [Act.put, List.setIfInBounds_toArray, List.set_cons_zero, List.set_cons_succ, List.getElem_toArray, List.getElem_cons_succ, List.getElem_cons_zero]
        refine wpAnyH_take (i := 12) (v := ?_) rfl (by kernel_rfl) (by kernel_rfl) (by kernel_rfl) (fun _ _ _ h => h) (Or.inl ⟨by rfl, ?yldq⟩) (by assumption) ?_
        case yldq => (intro w hSw; (try dsimp only at hSw); go_simp; try with_reducible rfl)
        try simp only [Act.put, List.setIfInBounds_toArray, List.set_cons_zero, List.set_cons_succ, List.getElem_toArray, List.getElem_cons_succ, List.getElem_cons_zero]
        refine wpAnyH_take (i := 13) (v := ?_) rfl (by kernel_rfl) (by kernel_rfl) (by kernel_rfl) (fun _ _ _ h => h) (Or.inl ⟨by rfl, ?yldq⟩) (by assumption) ?_
        case yldq => (intro w hSw; (try dsimp only at hSw); go_simp; try with_reducible rfl)
        try simp only [Act.put, List.setIfInBounds_toArray, List.set_cons_zero, List.set_cons_succ, List.getElem_toArray, List.getElem_cons_succ, List.getElem_cons_zero]
        refine wpAnyH_done (by kernel_rfl) ?_ _
        go_wp2_with fail
        refine (H5.out _).mono ?_
        rintro e w20 ⟨rfl, hb⟩
        have L20 := Lib.hid (L19.out.trans (hb.mono L19.out.size))
        have K20_0 := Lib.hid (K19_0.out.below hb K19_0.out.lt)
        have K20_1 := Lib.hid (K19_1.out.below hb K19_1.out.lt)
        clear hb K19_0 K19_1
        go_wp2
        go_ret
        refine ⟨rfl, ?_⟩
        have hge := L20.out.size
        repeat (first | (with_reducible refine Below.setCell ?_ ?ybel _; case ybel => (first | omega | (simp <;> omega))) | (with_reducible refine Below.alloc ?_ ?ybel _; case ybel => (first | omega | (simp <;> omega))) | (with_reducible refine below_drewNs ?_ _) | (with_reducible refine Below.drew ?_) | (with_reducible exact Below.refl _ _))
        exact L20.out
    · obtain ⟨hy1, hy2, hy3⟩ := HY.out rfl
      obtain ⟨y0, y1, y2, y3, y4, y5, y6, y7, yr, yp⟩ := y
      dsimp only at hy1 hy2
      subst hy1 hy2
      have h6 := H6.out
      rw [hy3] at h6
      have h5 := H5.out
      unfold pv at h5 h6
      dsimp only at h5 h6
      have H5 := Lib.hid h5; have H6 := Lib.hid h6; clear h5 h6 hy3
      go_enter Try.func5, Try.ntmps5
      go_wp2_with fail
      have nb0 : Blk (w.alloc (.cells #[.bool v, .bool r, .bool x1, .bool x, .bool u, .bool g, .bool a, .bool d, .int .i64 rsw, .int .u64 (ppn : Int)] 24)) (w.heap.size) [.bool v, .bool r, .bool x1, .bool x, .bool u, .bool g, .bool a, .bool d, .int .i64 rsw, .int .u64 (ppn : Int)] 24 := Blk.new w [.bool v, .bool r, .bool x1, .bool x, .bool u, .bool g, .bool a, .bool d, .int .i64 rsw, .int .u64 (ppn : Int)] 24
      have nls : Below w.heap.size w w := (Below.refl w.heap.size w)
      have nl0 := nls.alloc nls.size (.cells #[.bool v, .bool r, .bool x1, .bool x, .bool u, .bool g, .bool a, .bool d, .int .i64 rsw, .int .u64 (ppn : Int)] 24)
      have nl : Below w.heap.size w (w.alloc (.cells #[.bool v, .bool r, .bool x1, .bool x, .bool u, .bool g, .bool a, .bool d, .int .i64 rsw, .int .u64 (ppn : Int)] 24)) := nl0; clear nls nl0
      obtain ⟨B21, hB0⟩ : ∃ B, B = w.heap.size := ⟨_, rfl⟩
      obtain ⟨W21, hW⟩ : ∃ W, W = (w.alloc (.cells #[.bool v, .bool r, .bool x1, .bool x, .bool u, .bool g, .bool a, .bool d, .int .i64 rsw, .int .u64 (ppn : Int)] 24)) := ⟨_, rfl⟩
      rw [← hW] at nl nb0
      rw [← hB0] at nb0
      rw [← hW]
      try rw [← hB0]
      have K21_0 := Lib.hid nb0
      have G21 : Hid (w.heap.size ≤ B21) := Lib.hid (by have := (Nat.le_refl w.heap.size); omega)
      have L21 := Lib.hid nl
      clear nl hW nb0 hB0
      refine (first_any _).mono ?_
      rintro e w22 ⟨rfl, hb⟩
      have L22 := Lib.hid (L21.out.trans (hb.mono L21.out.size))
      have K22_0 := Lib.hid (K21_0.out.below hb K21_0.out.lt)
      clear hb K21_0
      have m0_0 : w22.cell? ⟨B21, 0, none⟩ = some _ := K22_0.out.cell 0
      have m0_1 : w22.cell? ⟨B21, 1, none⟩ = some _ := K22_0.out.cell 1
      have m0_2 : w22.cell? ⟨B21, 2, none⟩ = some _ := K22_0.out.cell 2
      have m0_3 : w22.cell? ⟨B21, 3, none⟩ = some _ := K22_0.out.cell 3
      have m0_4 : w22.cell? ⟨B21, 4, none⟩ = some _ := K22_0.out.cell 4
      have m0_5 : w22.cell? ⟨B21, 5, none⟩ = some _ := K22_0.out.cell 5
      have m0_6 : w22.cell? ⟨B21, 6, none⟩ = some _ := K22_0.out.cell 6
      have m0_7 : w22.cell? ⟨B21, 7, none⟩ = some _ := K22_0.out.cell 7
      have m0_8 : w22.cell? ⟨B21, 8, none⟩ = some _ := K22_0.out.cell 8
      have m0_9 : w22.cell? ⟨B21, 9, none⟩ = some _ := K22_0.out.cell 9
      have mlt0 : B21 < w22.heap.size := K22_0.out.lt
      go_wp2_with fail
      clear m0_0 m0_1 m0_2 m0_3 m0_4 m0_5 m0_6 m0_7 m0_8 m0_9 mlt0
      refine (H1.out _).mono ?_
      rintro e w23 ⟨rfl, hb⟩
      have L23 := Lib.hid (L22.out.trans (hb.mono L22.out.size))
      have K23_0 := Lib.hid (K22_0.out.below hb K22_0.out.lt)
      clear hb K22_0
      go_wp2_with fail
      refine (H4.out _).mono ?_
      rintro e w24 ⟨rfl, hb⟩
      have L24 := Lib.hid (L23.out.trans (hb.mono L23.out.size))
      have K24_0 := Lib.hid (K23_0.out.below hb K23_0.out.lt)
      clear hb K23_0
      have m0_0 : w24.cell? ⟨B21, 0, none⟩ = some _ := K24_0.out.cell 0
      have m0_1 : w24.cell? ⟨B21, 1, none⟩ = some _ := K24_0.out.cell 1
      have m0_2 : w24.cell? ⟨B21, 2, none⟩ = some _ := K24_0.out.cell 2
      have m0_3 : w24.cell? ⟨B21, 3, none⟩ = some _ := K24_0.out.cell 3
      have m0_4 : w24.cell? ⟨B21, 4, none⟩ = some _ := K24_0.out.cell 4
      have m0_5 : w24.cell? ⟨B21, 5, none⟩ = some _ := K24_0.out.cell 5
      have m0_6 : w24.cell? ⟨B21, 6, none⟩ = some _ := K24_0.out.cell 6
      have m0_7 : w24.cell? ⟨B21, 7, none⟩ = some _ := K24_0.out.cell 7
      have m0_8 : w24.cell? ⟨B21, 8, none⟩ = some _ := K24_0.out.cell 8
      have m0_9 : w24.cell? ⟨B21, 9, none⟩ = some _ := K24_0.out.cell 9
      have mlt0 : B21 < w24.heap.size := K24_0.out.lt
      have mf0 : ∀ o, w24.frozen? ⟨B21, o, none⟩ = false := fun o => K24_0.out.free o
      go_wp2
      clear m0_0 m0_1 m0_2 m0_3 m0_4 m0_5 m0_6 m0_7 m0_8 m0_9 mlt0 mf0
      have nb0 : Blk (((w24.setCell ⟨B21, 8, none⟩ (.int .i64 0)).setCell ⟨B21, 9, none⟩ (.int .u64 0)).alloc (.cells #[.bool v, .bool r, .bool x1, .bool x, .bool u, .bool g, .bool a, .bool d, .int .i64 0, .int .u64 0] 24)) (w24.heap.size) [.bool v, .bool r, .bool x1, .bool x, .bool u, .bool g, .bool a, .bool d, .int .i64 0, .int .u64 0] 24 := Blk.nextn ((w24.setCell ⟨B21, 8, none⟩ (.int .i64 0)).setCell ⟨B21, 9, none⟩ (.int .u64 0)) (w24.heap.size) [.bool v, .bool r, .bool x1, .bool x, .bool u, .bool g, .bool a, .bool d, .int .i64 0, .int .u64 0] 24 (by simp [World.setCell])
      have nls : Below w.heap.size w ((w24.setCell ⟨B21, 8, none⟩ (.int .i64 0)).setCell ⟨B21, 9, none⟩ (.int .u64 0)) := (Below.setCell (Below.setCell L24.out G21.out (.int .i64 0)) G21.out (.int .u64 0))
      have nl0 := nls.alloc nls.size (.cells #[.bool v, .bool r, .bool x1, .bool x, .bool u, .bool g, .bool a, .bool d, .int .i64 0, .int .u64 0] 24)
      have nl : Below w.heap.size w (((w24.setCell ⟨B21, 8, none⟩ (.int .i64 0)).setCell ⟨B21, 9, none⟩ (.int .u64 0)).alloc (.cells #[.bool v, .bool r, .bool x1, .bool x, .bool u, .bool g, .bool a, .bool d, .int .i64 0, .int .u64 0] 24)) := nl0; clear nls nl0
      have o0 : Blk (((w24.setCell ⟨B21, 8, none⟩ (.int .i64 0)).setCell ⟨B21, 9, none⟩ (.int .u64 0)).alloc (.cells #[.bool v, .bool r, .bool x1, .bool x, .bool u, .bool g, .bool a, .bool d, .int .i64 0, .int .u64 0] 24)) B21 [.bool v, .bool r, .bool x1, .bool x, .bool u, .bool g, .bool a, .bool d, .int .i64 0, .int .u64 0] 24 := (((K24_0.out.set 8 (.int .i64 0)).set 9 (.int .u64 0)).alloc (.cells #[.bool v, .bool r, .bool x1, .bool x, .bool u, .bool g, .bool a, .bool d, .int .i64 0, .int .u64 0] 24))
      have d25_0 : B21 < w24.heap.size := K24_0.out.lt
      obtain ⟨B25, hB0⟩ : ∃ B, B = w24.heap.size := ⟨_, rfl⟩
      obtain ⟨W25, hW⟩ : ∃ W, W = (((w24.setCell ⟨B21, 8, none⟩ (.int .i64 0)).setCell ⟨B21, 9, none⟩ (.int .u64 0)).alloc (.cells #[.bool v, .bool r, .bool x1, .bool x, .bool u, .bool g, .bool a, .bool d, .int .i64 0, .int .u64 0] 24)) := ⟨_, rfl⟩
      rw [← hW] at nl nb0 o0
      rw [← hB0] at nb0
      rw [← hW]
      try rw [← hB0]
      have K25_0 := Lib.hid o0
      have K25_1 := Lib.hid nb0
      have G25 : Hid (w.heap.size ≤ B25) := Lib.hid (by have := L24.out.size; omega)
      have x25_0_0 : B21 ≠ B25 := by omega
      have X25_0_0 := Lib.hid x25_0_0; clear x25_0_0
      have L25 := Lib.hid nl
      clear nl hW nb0 hB0 o0 d25_0 K24_0
      refine wp_region_held_drew (S := fun w' => Blk w' B21 [.bool v, .bool r, .bool x1, .bool x, .bool u, .bool g, .bool a, .bool d, .int .i64 0, .int .u64 0] 24 ∧ Blk w' B25 [.bool v, .bool r, .bool x1, .bool x, .bool u, .bool g, .bool a, .bool d, .int .i64 0, .int .u64 0] 24) (by kernel_rfl) ⟨K25_0.out, K25_1.out⟩ (fun hHeld => ?_)
      simp only [List.size_toArray, List.length_cons, List.length_nil, Nat.reduceAdd]
      rw [show Array.replicate 14 false = [false, false, false, false, false, false, false, false, false, false, false, false, false, false].toArray from rfl]
      refine wpAnyH_take (i := 0) (v := _) rfl (by kernel_rfl) (by kernel_rfl) (by kernel_rfl) (fun _ _ _ h => h) (Or.inl ⟨by rfl, fun w hSw => yield_ent _ _ _ rfl rfl hSw.1⟩) (by assumption) ?_
      try simp only [Act.put, List.setIfInBounds_toArray, List.set_cons_zero, List.set_cons_succ, List.getElem_toArray, List.getElem_cons_succ, List.getElem_cons_zero]
      refine wpAnyH_take (i := 2) (v := _) rfl (by kernel_rfl) (by kernel_rfl) (by kernel_rfl) (fun _ _ _ h => h) (Or.inl ⟨by rfl, fun w hSw => yield_ent _ _ _ rfl rfl hSw.1⟩) (by assumption) ?_
      try simp only [Act.put, List.setIfInBounds_toArray, List.set_cons_zero, List.set_cons_succ, List.getElem_toArray, List.getElem_cons_succ, List.getElem_cons_zero]
      refine wpAnyH_ready (rs := [1]) (by kernel_rfl) (by simp) ?_
      refine AllReadyH.cons rfl (fun K hK => ?_) AllReadyH.nil
      go_simp
      refine (H2.out _).mono ?_
      rintro e w26 ⟨rfl, hb⟩
      have L26 := Lib.hid ((L25.out.drew).trans (hb.mono L25.out.size))
      have K26_0 := Lib.hid ((Blk.drewN K25_0.out 1).below hb K25_0.out.lt)
      have K26_1 := Lib.hid ((Blk.drewN K25_1.out 1).below hb K25_1.out.lt)
      clear hb K25_0 K25_1
      refine hK.out _ _ ⟨K26_0.out, K26_1.out⟩ (fun hS1 => ?_)
      clear hK K
      refine wpAnyH_ready (rs := [3]) (by kernel_rfl) (by simp) ?_
      refine AllReadyH.cons rfl (fun K hK => ?_) AllReadyH.nil
      go_simp
      refine (H3.out _).mono ?_
      rintro e w27 ⟨rfl, hb⟩
      have L27 := Lib.hid (L26.out.trans (hb.mono L26.out.size))
      have K27_0 := Lib.hid (K26_0.out.below hb K26_0.out.lt)
      have K27_1 := Lib.hid (K26_1.out.below hb K26_1.out.lt)
      clear hb K26_0 K26_1
      refine hK.out _ _ ⟨K27_0.out, K27_1.out⟩ (fun hS3 => ?_)
      clear hK K
      refine wpAnyH_take (i := 4) (v := ?_) rfl (by kernel_rfl) (by kernel_rfl) (by kernel_rfl) (fun _ _ _ h => h) (Or.inl ⟨by rfl, ?yldq⟩) (by assumption) ?_
      case yldq => (intro w hSw; (try dsimp only at hSw); go_simp; try with_reducible rfl)
      try simp only [Act.put, List.setIfInBounds_toArray, List.set_cons_zero, List.set_cons_succ, List.getElem_toArray, List.getElem_cons_succ, List.getElem_cons_zero]
      refine wpAnyH_take (i := 5) (v := ?_) rfl (by kernel_rfl) (by kernel_rfl) (by kernel_rfl) (fun _ _ _ h => h) (Or.inl ⟨by rfl, ?yldq⟩) (by assumption) ?_
      case yldq => (intro w hSw; (try dsimp only at hSw); go_simp; try with_reducible rfl)
      try simp only [Act.put, List.setIfInBounds_toArray, List.set_cons_zero, List.set_cons_succ, List.getElem_toArray, List.getElem_cons_succ, List.getElem_cons_zero]
      refine wpAnyH_take (i := 6) (v := _) rfl (by kernel_rfl) (by kernel_rfl) (by kernel_rfl) (fun _ _ _ h => h) (Or.inl ⟨by rfl, fun w hSw => yield_ent _ _ _ rfl rfl hSw.2⟩) (by assumption) ?_
      try simp only [Act.put, List.setIfInBounds_toArray, List.set_cons_zero, List.set_cons_succ, List.getElem_toArray, List.getElem_cons_succ, List.getElem_cons_zero]
      refine wpAnyH_take (i := 7) (v := _) rfl (by kernel_rfl) (by kernel_rfl) (by kernel_rfl) (fun _ _ _ h => h) (Or.inl ⟨by rfl, fun w hSw => yield_ent _ _ _ rfl rfl hSw.1⟩) (by assumption) ?_
      try simp only [Act.put, List.setIfInBounds_toArray, List.set_cons_zero, List.set_cons_succ, List.getElem_toArray, List.getElem_cons_succ, List.getElem_cons_zero]
      refine wpAnyH_take (i := 8) (v := ?_) rfl (by kernel_rfl) (by kernel_rfl) (by kernel_rfl) (fun _ _ _ h => h) (Or.inl ⟨by rfl, ?yldq⟩) (by assumption) ?_
      case yldq => (intro w hSw; (try dsimp only at hSw); go_simp; try with_reducible rfl)
      try simp only [Act.put, List.setIfInBounds_toArray, List.set_cons_zero, List.set_cons_succ, List.getElem_toArray, List.getElem_cons_succ, List.getElem_cons_zero]
      refine wpAnyH_take (i := 9) (v := ?_) rfl (by kernel_rfl) (by kernel_rfl) (by kernel_rfl) (fun _ _ _ h => h) (Or.inl ⟨by rfl, ?yldq⟩) (by assumption) ?_
      case yldq => (intro w hSw; (try dsimp only at hSw); go_simp; try with_reducible rfl)
      try simp only [Act.put, List.setIfInBounds_toArray, List.set_cons_zero, List.set_cons_succ, List.getElem_toArray, List.getElem_cons_succ, List.getElem_cons_zero]
      refine wpAnyH_take (i := 10) (v := ?_) rfl (by kernel_rfl) (by kernel_rfl) (by kernel_rfl) (fun _ _ _ h => h) (Or.inl ⟨by rfl, ?yldq⟩) (by assumption) ?_
      case yldq => (intro w hSw; (try dsimp only at hSw); go_simp; try with_reducible rfl)
      try simp only [Act.put, List.setIfInBounds_toArray, List.set_cons_zero, List.set_cons_succ, List.getElem_toArray, List.getElem_cons_succ, List.getElem_cons_zero]
      refine wpAnyH_take (i := 11) (v := ?_) rfl (by kernel_rfl) (by kernel_rfl) (by kernel_rfl) (fun _ _ _ h => h) (Or.inl ⟨by rfl, ?yldq⟩) (by assumption) ?_
      case yldq => (intro w hSw; (try dsimp only at hSw); go_simp; try with_reducible rfl)
      try simp only [Act.put, List.setIfInBounds_toArray, List.set_cons_zero, List.set_cons_succ, List.getElem_toArray, List.getElem_cons_succ, List.getElem_cons_zero]
      refine wpAnyH_take (i := 12) (v := ?_) rfl (by kernel_rfl) (by kernel_rfl) (by kernel_rfl) (fun _ _ _ h => h) (Or.inl ⟨by rfl, ?yldq⟩) (by assumption) ?_
      case yldq => (intro w hSw; (try dsimp only at hSw); go_simp; try with_reducible rfl)
      try simp only [Act.put, List.setIfInBounds_toArray, List.set_cons_zero, List.set_cons_succ, List.getElem_toArray, List.getElem_cons_succ, List.getElem_cons_zero]
      refine wpAnyH_take (i := 13) (v := ?_) rfl (by kernel_rfl) (by kernel_rfl) (by kernel_rfl) (fun _ _ _ h => h) (Or.inl ⟨by rfl, ?yldq⟩) (by assumption) ?_
      case yldq => (intro w hSw; (try dsimp only at hSw); go_simp; try with_reducible rfl)
      try simp only [Act.put, List.setIfInBounds_toArray, List.set_cons_zero, List.set_cons_succ, List.getElem_toArray, List.getElem_cons_succ, List.getElem_cons_zero]
      refine wpAnyH_done (by kernel_rfl) ?_ _
      go_wp2_with fail
      refine (H5.out _).mono ?_
      rintro e w28 ⟨rfl, hb⟩
      have L28 := Lib.hid (L27.out.trans (hb.mono L27.out.size))
      have K28_0 := Lib.hid (K27_0.out.below hb K27_0.out.lt)
      have K28_1 := Lib.hid (K27_1.out.below hb K27_1.out.lt)
      clear hb K27_0 K27_1
      go_wp2_with fail
      have nb0 : Blk (w28.alloc (.cells #[.bool y0, .bool y1, .bool y2, .bool y3, .bool y4, .bool y5, .bool y6, .bool y7, .int .i64 0, .int .u64 0] 24)) (w28.heap.size) [.bool y0, .bool y1, .bool y2, .bool y3, .bool y4, .bool y5, .bool y6, .bool y7, .int .i64 0, .int .u64 0] 24 := Blk.new w28 [.bool y0, .bool y1, .bool y2, .bool y3, .bool y4, .bool y5, .bool y6, .bool y7, .int .i64 0, .int .u64 0] 24
      have nls : Below w.heap.size w w28 := L28.out
      have nl0 := nls.alloc nls.size (.cells #[.bool y0, .bool y1, .bool y2, .bool y3, .bool y4, .bool y5, .bool y6, .bool y7, .int .i64 0, .int .u64 0] 24)
      have nl : Below w.heap.size w (w28.alloc (.cells #[.bool y0, .bool y1, .bool y2, .bool y3, .bool y4, .bool y5, .bool y6, .bool y7, .int .i64 0, .int .u64 0] 24)) := nl0; clear nls nl0
      have o0 : Blk (w28.alloc (.cells #[.bool y0, .bool y1, .bool y2, .bool y3, .bool y4, .bool y5, .bool y6, .bool y7, .int .i64 0, .int .u64 0] 24)) B21 [.bool v, .bool r, .bool x1, .bool x, .bool u, .bool g, .bool a, .bool d, .int .i64 0, .int .u64 0] 24 := (K28_0.out.alloc (.cells #[.bool y0, .bool y1, .bool y2, .bool y3, .bool y4, .bool y5, .bool y6, .bool y7, .int .i64 0, .int .u64 0] 24))
      have d29_0 : B21 < w28.heap.size := K28_0.out.lt
      have o1 : Blk (w28.alloc (.cells #[.bool y0, .bool y1, .bool y2, .bool y3, .bool y4, .bool y5, .bool y6, .bool y7, .int .i64 0, .int .u64 0] 24)) B25 [.bool v, .bool r, .bool x1, .bool x, .bool u, .bool g, .bool a, .bool d, .int .i64 0, .int .u64 0] 24 := (K28_1.out.alloc (.cells #[.bool y0, .bool y1, .bool y2, .bool y3, .bool y4, .bool y5, .bool y6, .bool y7, .int .i64 0, .int .u64 0] 24))
      have d29_1 : B25 < w28.heap.size := K28_1.out.lt
      obtain ⟨B29, hB0⟩ : ∃ B, B = w28.heap.size := ⟨_, rfl⟩
      obtain ⟨W29, hW⟩ : ∃ W, W = (w28.alloc (.cells #[.bool y0, .bool y1, .bool y2, .bool y3, .bool y4, .bool y5, .bool y6, .bool y7, .int .i64 0, .int .u64 0] 24)) := ⟨_, rfl⟩
      rw [← hW] at nl nb0 o0 o1
      rw [← hB0] at nb0
      rw [← hW]
      try rw [← hB0]
      have K29_0 := Lib.hid o0
      have K29_1 := Lib.hid o1
      have K29_2 := Lib.hid nb0
      have G29 : Hid (w.heap.size ≤ B29) := Lib.hid (by have := L28.out.size; omega)
      have x29_0_0 : B21 ≠ B29 := by omega
      have x29_1_0 : B25 ≠ B29 := by omega
      have X29_0_0 := Lib.hid x29_0_0; clear x29_0_0
      have X29_1_0 := Lib.hid x29_1_0; clear x29_1_0
      have L29 := Lib.hid nl
      clear nl hW nb0 hB0 o0 d29_0 o1 d29_1 K28_0 K28_1
      refine (H6.out _).mono ?_
      rintro e w30 ⟨rfl, hb⟩
      have L30 := Lib.hid (L29.out.trans (hb.mono L29.out.size))
      have K30_0 := Lib.hid (K29_0.out.below hb K29_0.out.lt)
      have K30_1 := Lib.hid (K29_1.out.below hb K29_1.out.lt)
      have K30_2 := Lib.hid (K29_2.out.below hb K29_2.out.lt)
      clear hb K29_0 K29_1 K29_2
      have m2_0 : w30.cell? ⟨B29, 0, none⟩ = some _ := K30_2.out.cell 0
      have m2_1 : w30.cell? ⟨B29, 1, none⟩ = some _ := K30_2.out.cell 1
      have m2_2 : w30.cell? ⟨B29, 2, none⟩ = some _ := K30_2.out.cell 2
      have m2_3 : w30.cell? ⟨B29, 3, none⟩ = some _ := K30_2.out.cell 3
      have m2_4 : w30.cell? ⟨B29, 4, none⟩ = some _ := K30_2.out.cell 4
      have m2_5 : w30.cell? ⟨B29, 5, none⟩ = some _ := K30_2.out.cell 5
      have m2_6 : w30.cell? ⟨B29, 6, none⟩ = some _ := K30_2.out.cell 6
      have m2_7 : w30.cell? ⟨B29, 7, none⟩ = some _ := K30_2.out.cell 7
      have m2_8 : w30.cell? ⟨B29, 8, none⟩ = some _ := K30_2.out.cell 8
      have m2_9 : w30.cell? ⟨B29, 9, none⟩ = some _ := K30_2.out.cell 9
      have mlt2 : B29 < w30.heap.size := K30_2.out.lt
      go_wp2
      clear m2_0 m2_1 m2_2 m2_3 m2_4 m2_5 m2_6 m2_7 m2_8 m2_9 mlt2
      go_ret
      exact ⟨rfl, L30.out⟩
end Go.Proofs.Ytbdfibckbibhnaa
