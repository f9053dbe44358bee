/-
  What the small functions of package phys answer and leave in memory, and the memory as a relation: contracts over the translation. Each says its own conditions.
-/
import Derived.Test.YtgnjbjbgfhjakaaGreatWordGP
import Derived.Test.YtgnjbjbgfhjakaaGreatMap06
import Derived.Test.YtgnjbjbgfhjakaaGreatPure06
import Derived.Deep.QuietTactic
import Derived.BigQuiet
namespace Go.Proofs.YtgnjbjbgfhjakaaGreat
open Go.RowKit
open Go.Maps (Keyed)
set_option linter.unusedVariables false
set_option linter.unusedSimpArgs false

theorem aligned_yes (v : Int) (s : Nat) (w : World) (h : SzI s) (h0 : 0 ≤ v) (h1 : v ≤ 18446744073709551615) : Calls Tryz.prog 87 #[.int .u64 v, .int .i64 s] w fun e w' => e = .returned (.bool (v % s == 0)) ∧ w = w' := by
  have h' : s = 1 ∨ s = 2 ∨ s = 4 ∨ s = 8 := by unfold SzI at h; omega
  clear h
  rcases h' with rfl | rfl | rfl | rfl
  all_goals
    go_enter Tryz.func87, Tryz.ntmps87
    go_wp2
    go_ret
    refine ⟨?_, rfl⟩
    simp
/-- word.Put into a block known whole -/
theorem put_blk (g n a s t : Nat) (v : Int) (xs : List Int) (w : World) (h0 : 0 ≤ v) (h1 : v ≤ 18446744073709551615) (hn : n ≤ 9223372036854775807) (hin : InB n a s)
    (hl : xs.length = n) (hown : Blk w g (xs.map (Value.int .u8)) t) :
    Calls Tryz.prog 111 #[.slice (some ⟨g, 0, none⟩) n n, .int .i64 a, .int .i64 s, .int .u64 v] w fun e w' => e = .returned (.bool true) ∧ Blk w' g ((lay xs a (byt v s)).map (Value.int .u8)) t ∧ Chg (fun k => k = g) w w' := by
  have hs8 : a + s ≤ n ∧ s ≤ 8 := by obtain ⟨h, h2, h3⟩ := hin; unfold SzI at h; omega
  obtain ⟨hs1, hs2⟩ := hs8
  go_enter Tryz.func111, Tryz.ntmps111
  go_wp2_with fail
  refine (within_yes _ _ _ _ hin (by omega)).mono ?_
  rintro e w' ⟨rfl, rfl⟩
  clear hin
  have HL := Lib.hid hl; clear hl
  go_wp2
  go_loopw [9, 17] (fun x c wr => ∃ k : Nat, k ≤ s ∧ c = .int .i64 k ∧ Blk wr g ((lay xs a (byt v k)).map (Value.int .u8)) t ∧ Chg (fun k => k = g) w wr) (fun _ c _ => s - (intOf c).toNat)
  case atStart => exact ⟨0, Nat.zero_le _, rfl, by rw [byt, lay_nil]; exact hown, Chg.refl _ _⟩
  case round =>
    obtain ⟨k, hk, rfl, ho, hb⟩ := hrel
    have hl : (lay xs a (byt v k)).length = n := by
      rw [lay_len _ _ _ (by rw [byt_len]; have := HL.out; omega)]; exact HL.out
    by_cases hlt : k < s
    · have hc : wr.cell? ⟨g, a + k, none⟩ = some (.int .u8 ((lay xs a (byt v k)).getD (a + k) 0)) := by
        rw [ho.cell (a + k), List.getElem?_map, List.getD_eq_getElem?_getD, List.getElem?_eq_getElem (by omega)]; rfl
      have hf := ho.free (a + k)
      have ho' := ho.set (a + k) (.int .u8 (v / 2 ^ (8 * k) % 256))
      have e1 : ((lay xs a (byt v k)).map (Value.int .u8)).set (a + k) (.int .u8 (v / 2 ^ (8 * k) % 256)) = (lay xs a (byt v (k + 1))).map (Value.int .u8) := by
        rw [byt_snoc, ← lay_snoc _ _ _ _ (by rw [byt_len]; have := HL.out; omega), byt_len, List.map_set, pow_8]
      rw [e1] at ho'
      have HO := Lib.hid ho'
      have HN := Lib.hid hown
      clear e1 ho' hl hown
      obtain ⟨c, hC⟩ : ∃ c, c = (lay xs a (byt v k)).getD (a + k) 0 := ⟨_, rfl⟩
      rw [← hC] at hc
      clear hC
      have H := Lib.hid ho; clear ho
      go_wp2
      go_roundw
      case rel => exact ⟨k + 1, by omega, by go_num, HO.out, hb.trans (Chg.setCell _ _ _ rfl)⟩
      case measure => simp [intOf]; omega
    · obtain rfl : k = s := by omega
      go_wp2
      go_ret
      exact ⟨rfl, ho, hb⟩

/-! ### A memory -/
/-- the blocks that a memory's later writes may change -/
def FpP (mb : Nat) (pg : Nat → Option Nat) : Nat → Prop := fun k => k = mb ∨ ∃ f, pg f = some k
/-- a memory at block mp: its map at mb, its pages' blocks, what its frames read -/
structure MemP (w : World) (mp mb fr n : Nat) (pg : Nat → Option Nat) (C : Nat → List Int) : Prop where
  blk : Blk w mp [.int .i64 fr, .map (some mb)] 129
  map : Mp w mb n pg
  ne : mp ≠ mb
  fr0 : 1 ≤ fr
  fr1 : fr ≤ 1048576
  no : ∀ f, pg f = none → C f = List.replicate 4096 0
  yes : ∀ f g, pg f = some g → Blk w g ((C f).map (Value.int .u8)) 183 ∧ g ≠ mp ∧ g ≠ mb
  inj : ∀ f f' g, pg f = some g → pg f' = some g → f = f'
  byt : ∀ f, Byt (C f) ∧ (C f).length = 4096
theorem MemP.lt {w : World} {mp mb fr n : Nat} {pg : Nat → Option Nat} {C : Nat → List Int} (h : MemP w mp mb fr n pg C) : ∀ k, FpP mb pg k → k < w.heap.size := by
  rintro k (rfl | ⟨f, hf⟩)
  · exact h.map.lt
  · exact (h.yes f k hf).1.lt
theorem MemP.out {w : World} {mp mb fr n : Nat} {pg : Nat → Option Nat} {C : Nat → List Int} (h : MemP w mp mb fr n pg C) : ¬ FpP mb pg mp := by
  rintro (e | ⟨f, hf⟩)
  · exact h.ne e
  · exact (h.yes f mp hf).2.1 rfl
theorem MemP.chg {F : Nat → Prop} {w w' : World} {mp mb fr n : Nat} {pg : Nat → Option Nat} {C : Nat → List Int} (h : MemP w mp mb fr n pg C) (hc : Chg F w w') (h1 : ¬ F mp) (h2 : ∀ k, FpP mb pg k → ¬ F k) : MemP w' mp mb fr n pg C :=
  ⟨h.blk.chg hc h1, h.map.chg hc (h2 _ (.inl rfl)), h.ne, h.fr0, h.fr1, h.no, fun f g hg => ⟨(h.yes f g hg).1.chg hc (h2 _ (.inr ⟨f, hg⟩)), (h.yes f g hg).2⟩, h.inj, h.byt⟩
theorem MemP.mono {w : World} {mp mb fr n m : Nat} {pg : Nat → Option Nat} {C : Nat → List Int} (h : MemP w mp mb fr n pg C) (hn : n ≤ m) : MemP w mp mb fr m pg C :=
  ⟨h.blk, h.map.mono hn, h.ne, h.fr0, h.fr1, h.no, h.yes, h.inj, h.byt⟩
theorem rep_Byt : ∀ n : Nat, Byt (List.replicate n 0) := fun n x hx => by
  have := List.eq_of_mem_replicate hx; omega
theorem new_no (n : Int) (w : World) (h : ¬ (1 ≤ n ∧ n ≤ 1048576)) : Calls Tryz.prog 32 #[.int .i64 n] w fun e w' => e = .returned (.tuple #[.pointer none, .int .i64 2]) ∧ w = w' := by
  by_cases h0 : n < 1
  · clear h
    go_enter Tryz.func32, Tryz.ntmps32
    go_wp2
    go_ret2
    exact ⟨rfl, rfl⟩
  · have h1 : 1 ≤ n := by omega
    have h2 : 1048576 < n := by omega
    clear h h0
    go_enter Tryz.func32, Tryz.ntmps32
    go_wp2
    go_ret2
    exact ⟨rfl, rfl⟩
theorem new_yes (n : Nat) (w : World) (h1 : 1 ≤ n) (h2 : n ≤ 1048576) : Calls Tryz.prog 32 #[.int .i64 n] w fun e w' => ∃ mp mb, e = .returned (.tuple #[.pointer (some ⟨mp, 0, none⟩), .int .i64 0]) ∧ w.heap.size ≤ mp ∧ w.heap.size ≤ mb ∧ MemP w' mp mb n 0 (fun _ => none) (fun _ => List.replicate 4096 0) ∧ Chg no w w' := by
  have hm := Mp.made w
  have hmm := @run_makeMap Tryz.prog
  have HM := Lib.hid hm; clear hm
  go_enter Tryz.func32, Tryz.ntmps32
  go_wp2
  go_ret2
  have hb := Blk.new (w.alloc (.map #[] 0)) [.int .i64 n, .map (some w.heap.size)] 129
  have e : (w.alloc (.map #[] 0)).heap.size = w.heap.size + 1 := by simp
  rw [e] at hb
  refine ⟨_, _, rfl, ?_, Nat.le_refl _, ⟨hb, HM.out.chg (Chg.alloc no _ _) (fun h => h), by simp, h1, h2, fun _ _ => rfl, fun f g h => by (cases h), fun f f' g h => by (cases h), fun f => ⟨rep_Byt _, List.length_replicate⟩⟩, (Chg.alloc _ _ _).thenAlloc _⟩
  simp
theorem has_no (mp n : Nat) (f : Int) (w : World) (h : w.cell? ⟨mp, 0, none⟩ = some (.int .i64 n)) (hf : ¬ (0 ≤ f ∧ f < n)) : Calls Tryz.prog 78 #[.pointer (some ⟨mp, 0, none⟩), .int .i64 f] w fun e w' => e = .returned (.int .i64 61) ∧ w = w' := by
  by_cases h0 : f < 0
  · go_enter Tryz.func78, Tryz.ntmps78
    go_wp2
    go_ret
    exact ⟨rfl, rfl⟩
  · have h1 : (n : Int) ≤ f := by omega
    have h2 : 0 ≤ f := by omega
    clear hf h0
    go_enter Tryz.func78, Tryz.ntmps78
    go_wp2
    go_ret
    exact ⟨rfl, rfl⟩
theorem has_yes (mp n f : Nat) (w : World) (h : w.cell? ⟨mp, 0, none⟩ = some (.int .i64 n)) (hf : f < n) : Calls Tryz.prog 78 #[.pointer (some ⟨mp, 0, none⟩), .int .i64 f] w fun e w' => e = .returned (.int .i64 0) ∧ w = w' := by
  go_enter Tryz.func78, Tryz.ntmps78
  go_wp2
  go_ret
  exact ⟨rfl, rfl⟩
theorem find_bad (mp fr a : Nat) (s : Int) (w : World) (h : w.cell? ⟨mp, 0, none⟩ = some (.int .i64 fr)) (ha : a ≤ 18446744073709551615) (hfr : fr ≤ 1048576) (he : errL fr a s ≠ 0) :
    Calls Tryz.prog 110 #[.pointer (some ⟨mp, 0, none⟩), .int .u64 a, .int .i64 s] w fun e w' => e = .returned (.tuple #[.int .i64 0, .int .i64 0, .int .i64 (errL fr a s)]) ∧ w = w' := by
  unfold errL at he ⊢
  by_cases hs : SzI s
  · rw [if_pos hs] at he ⊢
    obtain ⟨k, rfl, hk⟩ := hs.nat
    rw [Int.toNat_natCast] at he ⊢
    have ca := aligned_yes a k w hs (by omega) (by omega)
    have hsz := size_yes k w hs
    by_cases hm : a % k = 0
    · rw [if_pos hm] at he ⊢
      have hb : ¬ a / 4096 < fr := fun hb => he (by rw [if_pos hb])
      rw [if_neg hb]
      have e1 : (((a : Int) % (k : Int)) == 0) = true := by
        have : ((a % k : Nat) : Int) = 0 := by rw [hm]; rfl
        simpa using this
      rw [e1] at ca
      have hb' : (fr : Int) ≤ (a : Int) / 4096 := by omega
      have CA := Lib.hid ca; have HS := Lib.hid hsz
      clear ca hsz he hb hm e1 hk hs
      go_enter Tryz.func110, Tryz.ntmps110
      go_wp2_with (first | (go_at_call 113; refine HS.out.mono ?_; rintro e w' ⟨rfl, rfl⟩) | (go_at_call 87; refine CA.out.mono ?_; rintro e w' ⟨rfl, rfl⟩))
      go_ret3
      exact ⟨rfl, rfl⟩
    · rw [if_neg hm]
      have e1 : (((a : Int) % (k : Int)) == 0) = false := by
        have : ((a % k : Nat) : Int) ≠ 0 := by omega
        simpa using this
      rw [e1] at ca
      have CA := Lib.hid ca; have HS := Lib.hid hsz
      clear ca hsz he hm e1 hk hs
      go_enter Tryz.func110, Tryz.ntmps110
      go_wp2_with (first | (go_at_call 113; refine HS.out.mono ?_; rintro e w' ⟨rfl, rfl⟩) | (go_at_call 87; refine CA.out.mono ?_; rintro e w' ⟨rfl, rfl⟩))
      go_ret3
      exact ⟨rfl, rfl⟩
  · rw [if_neg hs]
    have hsz := size_no s w hs
    have HS := Lib.hid hsz
    clear hsz hs he
    go_enter Tryz.func110, Tryz.ntmps110
    go_wp2_with (go_at_call 113; refine HS.out.mono ?_; rintro e w' ⟨rfl, rfl⟩)
    go_ret3
    exact ⟨rfl, rfl⟩
theorem find_ok (mp fr a : Nat) (s : Int) (w : World) (h : w.cell? ⟨mp, 0, none⟩ = some (.int .i64 fr)) (ha : a ≤ 18446744073709551615) (hfr : fr ≤ 1048576) (he : errL fr a s = 0) :
    Calls Tryz.prog 110 #[.pointer (some ⟨mp, 0, none⟩), .int .u64 a, .int .i64 s] w fun e w' => e = .returned (.tuple #[.int .i64 (a / 4096 : Nat), .int .i64 (a % 4096 : Nat), .int .i64 0]) ∧ w = w' := by
  obtain ⟨hs, hm, hb⟩ := errL_ok he
  obtain ⟨k, rfl, hk⟩ := hs.nat
  rw [Int.toNat_natCast] at hm
  have ca := aligned_yes a k w hs (by omega) (by omega)
  have hsz := size_yes k w hs
  have e1 : (((a : Int) % (k : Int)) == 0) = true := by
    have : ((a % k : Nat) : Int) = 0 := by rw [hm]; rfl
    simpa using this
  rw [e1] at ca
  have hb' : (a : Int) / 4096 < (fr : Int) := by omega
  have CA := Lib.hid ca; have HS := Lib.hid hsz
  clear ca hsz he hb hm e1 hk hs
  go_enter Tryz.func110, Tryz.ntmps110
  go_wp2_with (first | (go_at_call 113; refine HS.out.mono ?_; rintro e w' ⟨rfl, rfl⟩) | (go_at_call 87; refine CA.out.mono ?_; rintro e w' ⟨rfl, rfl⟩))
  go_ret3
  refine ⟨?_, rfl⟩
  try rfl
/-- frame f's bytes are now c -/
def updC (C : Nat → List Int) (f : Nat) (c : List Int) : Nat → List Int := fun k => if k = f then c else C k
theorem written_old (mp mb fr n f g : Nat) (pg : Nat → Option Nat) (C : Nat → List Int) (w : World) (h : MemP w mp mb fr n pg C) (hf : f ≤ 9223372036854775807) (hg : pg f = some g) :
    Calls Tryz.prog 80 #[.pointer (some ⟨mp, 0, none⟩), .int .i64 f] w fun e w' => e = .returned (.pointer (some ⟨g, 0, none⟩)) ∧ w = w' := by
  have h1 : w.cell? ⟨mp, 1, none⟩ = some (.map (some mb)) := h.blk.cell 1
  have hk := h.map.look f hf
  rw [hg] at hk
  replace hk : (Instr.lookup 127 (.map (some mb)) (.int .i64 f) false).run Tryz.prog w = .ok (.pointer (some ⟨g, 0, none⟩)) w := hk
  clear h
  go_enter Tryz.func80, Tryz.ntmps80
  go_wp2
  go_ret
  exact ⟨rfl, rfl⟩
/-- what a memory's frames read does not change when a page is laid for one -/
theorem MemP.laid {w w' : World} {mp mb fr n f : Nat} {pg : Nat → Option Nat} {C : Nat → List Int} (h : MemP w mp mb fr n pg C) (hg : pg f = none)
    (hm : Mp w' mb (n + 1) (updP pg f w.heap.size)) (hc : Chg (fun k => k = mb) w w') (hb : Blk w' w.heap.size ((List.replicate 4096 0).map (Value.int .u8)) 183) : MemP w' mp mb fr (n + 1) (updP pg f w.heap.size) C := by
  have hlt := h.lt
  have hmp := h.blk.lt
  refine ⟨h.blk.chg hc h.ne, hm, h.ne, h.fr0, h.fr1, fun k hk => ?_, fun k g hk => ?_, fun k k' g hk hk' => ?_, h.byt⟩
  · unfold updP at hk
    split at hk
    · cases hk
    · exact h.no k hk
  · unfold updP at hk
    split at hk
    · rename_i e
      subst e
      injection hk with hk
      subst hk
      rw [h.no k hg]
      have := hlt mb (.inl rfl)
      exact ⟨hb, by omega, by omega⟩
    · obtain ⟨h1, h2, h3⟩ := h.yes k g hk
      exact ⟨h1.chg hc h3, h2, h3⟩
  · unfold updP at hk hk'
    split at hk
    · split at hk'
      · omega
      · injection hk with hk
        have := hlt g (.inr ⟨_, hk'⟩)
        omega
    · split at hk'
      · injection hk' with hk'
        have := hlt g (.inr ⟨_, hk⟩)
        omega
      · exact h.inj k k' g hk hk'
theorem written_new (mp mb fr n f : Nat) (pg : Nat → Option Nat) (C : Nat → List Int) (w : World) (h : MemP w mp mb fr n pg C) (hf : f ≤ 9223372036854775807) (hn : n < 1000) (hg : pg f = none) :
    Calls Tryz.prog 80 #[.pointer (some ⟨mp, 0, none⟩), .int .i64 f] w fun e w' => e = .returned (.pointer (some ⟨w.heap.size, 0, none⟩)) ∧ MemP w' mp mb fr (n + 1) (updP pg f w.heap.size) C ∧ Chg (fun k => k = mb) w w' := by
  have h1 : w.cell? ⟨mp, 1, none⟩ = some (.map (some mb)) := h.blk.cell 1
  have hk := h.map.look f hf
  rw [hg] at hk
  replace hk : (Instr.lookup 127 (.map (some mb)) (.int .i64 f) false).run Tryz.prog w = .ok (.pointer none) w := hk
  obtain ⟨Z, hZ⟩ : ∃ Z : Array Value, Z = Array.replicate 4096 (.int .u8 0) := ⟨_, rfl⟩
  have hz : ∀ w, (zeroValue 183).run Tryz.prog w = .ok (.agg Z) w := fun w => by rw [hZ]; exact zeroPage w
  have hb1 : Blk (w.alloc (.cells Z 183)) w.heap.size (List.replicate 4096 (.int .u8 0)) 183 := by
    have := Blk.new w (List.replicate 4096 (.int .u8 0)) 183
    rwa [List.toArray_replicate, ← hZ] at this
  have hc1 : Chg no w (w.alloc (.cells Z 183)) := Chg.alloc _ _ _
  have hm1 := h.map.chg hc1 (fun h => h)
  obtain ⟨w2, hu, hm2, hc2⟩ := hm1.store (by unfold maxLen; omega) f w.heap.size hf
  have hmb := h.map.lt
  have h2 : (w.alloc (.cells Z 183)).cell? ⟨mp, 1, none⟩ = some (.map (some mb)) := (h.blk.chg hc1 (fun h => h)).cell 1
  have hc3 : Chg (fun k => k = mb) w w2 := hc1.of_no.trans hc2
  have hb2 := hb1.chg hc2 (by omega)
  have hM := h.laid hg hm2 hc3 (by rw [List.map_replicate]; exact hb2)
  have HM := Lib.hid hM; have HC := Lib.hid hc3
  clear h hb1 hc1 hm1 hm2 hc2 hb2 hM hc3 hZ
  go_enter Tryz.func80, Tryz.ntmps80
  go_wp2
  go_ret
  exact ⟨rfl, HM.out, HC.out⟩
end Go.Proofs.YtgnjbjbgfhjakaaGreat
