/-
  What word.Bytes answers: a contract over the translation. It says its own conditions.
-/
import Derived.Test.YtkddhjbdijegoaaDoorMsB15
namespace Go.Proofs.YtkddhjbdijegoaaDoor
open Go.RowKit
set_option linter.unusedVariables false

theorem bytes_yes (v : Int) (s : Nat) (w : World) (h : SzI s) (h0 : 0 ≤ v) (h1 : v ≤ 18446744073709551615) : Calls Tryd.prog 19 #[.int .u64 v, .int .i64 s] w fun e w' => Made w.heap.size (byt v s) e w w' := by
  obtain ⟨i0, hi, hz0, hz1, hz2⟩ := info_parts info_u8
  have hs8 : s ≤ 8 := by unfold SzI at h; omega
  have hin : InB s 0 s := ⟨h, by omega, by omega⟩
  go_enter Tryd.func19, Tryd.ntmps19
  go_wp2_with fail
  refine (size_yes _ _ h).mono ?_
  rintro e w' ⟨rfl, rfl⟩
  go_wp2_with (at_make; refine wpList_make_full _ rfl _ _ 24 rfl w.heap.size 5 i0 (.int .u8 0) 1 Tryd.underlying24 hi hz0 hz1 .i64 .i64 _ _ s rfl rfl rfl rfl ?c1 ?c2 (Nat.le_refl _) ?_)
  case c1 => rw [hz2]; omega
  case c2 => unfold maxLen; omega
  intro w1 hown hgr
  rw [toList_madeCells_one, ← List.map_replicate] at hown
  have HO := Lib.hid hown; clear hown
  have HG := Lib.hid hgr; clear hgr
  go_wp2_with fail
  refine (put_yes _ s s 0 s v _ _ _ h0 h1 (by omega) hin HO.out).mono ?_
  rintro e w2 ⟨rfl, ho, hb⟩
  rw [lay_all _ _ (by rw [byt_len, List.length_replicate])] at ho
  have HO2 := Lib.hid ho; clear ho
  have HB := Lib.hid hb; clear hb
  go_wp2
  go_ret
  refine ⟨_, rfl, ⟨w.heap.size, s, by rw [byt_len]; rfl, by rw [byt_len]; exact HO2.out⟩, ?_⟩
  exact ((Below.refl _ _).grown HG.out (Nat.le_refl _) (fun k hk => by cases hk)).trans HB.out
end Go.Proofs.YtkddhjbdijegoaaDoor
