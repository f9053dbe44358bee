/-
  What a set's text is, and what package nodes' function Text answers: a contract over the translation. It says its own conditions.
-/
import Derived.Test.YtkddhjbdijegoaaDoorNod15
import Derived.Lib.Join
import Derived.Lib.ItoaNum
namespace Go.Proofs.YtkddhjbdijegoaaDoor
open Go.RowKit
set_option linter.unusedVariables false

def decs (l : List Nat) : List (List UInt8) := l.map Lib.decDigits
def txt (s : Nat) : List UInt8 := if s = 0 then [45] else Lib.join (decs (upto s 16)) [44]
theorem upto_zero : upto 0 16 = [] := by decide
theorem upto_ne {s : Nat} (hs : s < 65536) (h : upto s 16 = []) : s = 0 := by
  have := of_list hs
  rw [h] at this
  exact this.symm
theorem tail_app (sep : List UInt8) : ∀ (l m : List (List UInt8)), Lib.joinTail sep (l ++ m) = Lib.joinTail sep l ++ Lib.joinTail sep m
  | [], m => rfl
  | x :: r, m => by simp [Lib.joinTail]
theorem join_snoc (l : List (List UInt8)) (y : List UInt8) : Lib.join (l ++ [y]) [44] = if l = [] then y else Lib.join l [44] ++ 44 :: y := by
  cases l with
  | nil => rw [List.nil_append, Lib.join_one, if_pos rfl]
  | cons x r =>
    rw [if_neg (by simp), List.cons_append, Lib.join_cons, Lib.join_cons, tail_app]
    simp [Lib.joinTail]
theorem dec_len (i : Nat) (h : i < 100) : (Lib.decDigits i).length ≤ 2 := by
  by_cases h1 : i < 10
  · rw [Lib.decDigits_one h1]; simp
  · rw [Lib.decDigits_two h1 h]; simp
theorem tail_len : ∀ (l : List Nat), (∀ i ∈ l, i < 16) → (Lib.joinTail [44] (decs l)).length ≤ 3 * l.length
  | [], _ => Nat.le_refl _
  | i :: r, h => by
    have h1 := tail_len r (fun j hj => h j (List.mem_cons_of_mem _ hj))
    have h2 := dec_len i (by have := h i (by simp); omega)
    have e : Lib.joinTail [44] (decs (i :: r)) = 44 :: (Lib.decDigits i ++ Lib.joinTail [44] (decs r)) := by simp [Lib.joinTail, decs]
    rw [e, List.length_cons, List.length_append, List.length_cons]
    omega
theorem join_len (l : List Nat) (h : ∀ i ∈ l, i < 16) : (Lib.join (decs l) [44]).length ≤ 3 * l.length := by
  cases l with
  | nil => simp [decs, Lib.join_nil]
  | cons i r =>
    have h1 := tail_len r (fun j hj => h j (List.mem_cons_of_mem _ hj))
    have h2 := dec_len i (by have := h i (by simp); omega)
    show (Lib.join (Lib.decDigits i :: decs r) [44]).length ≤ _
    rw [Lib.join_cons, List.length_append, List.length_cons]
    omega
def OwnS (B : Nat) (l : List ByteArray) (v : Value) (w : World) : Prop := w.ownsRow B 9 1 v l.length (l.map Value.string)
theorem info_str : (Tryd.prog.info? 9).map (fun i => (i.zero, i.size, i.bytes)) = some (some (.string ⟨#[]⟩), 1, 16) := by kernel_rfl
def strs (l : List Nat) : List ByteArray := l.map fun i => ⟨(Lib.decDigits i).toArray⟩
theorem strs_bytes (l : List Nat) : (strs l).map (·.data.toList) = decs l := by
  unfold strs decs; rw [List.map_map]; exact List.map_congr_left fun i _ => rfl
theorem strs_len (l : List Nat) : (strs l).length = l.length := List.length_map _
theorem strs_succ (l : List Nat) (k : Nat) (h : k < l.length) : strs (l.take (k + 1)) = strs (l.take k) ++ [⟨(Lib.decDigits (l.getD k 0)).toArray⟩] := by
  unfold strs
  rw [List.take_succ_eq_append_getElem h, List.map_append, List.getD_eq_getElem?_getD, List.getElem?_eq_getElem h]; rfl
theorem text_any (s : Nat) (w : World) (hs : s < 65536) (hT : Tz w) : Calls Tryd.prog 27 #[.int .u16 s] w fun e w' => e = .returned (.string ⟨(txt s).toArray⟩) ∧ Below w.heap.size w w' := by
  by_cases h0 : s = 0
  · subst h0
    go_enter Tryd.func27, Tryd.ntmps27
    go_wp2
    go_ret
    exact ⟨rfl, Below.refl _ _⟩
  obtain ⟨i0, hi, hz0, hz1, hz2⟩ := info_parts info_str
  have h16 := upto_len s 16
  have hd : ((s : Int) == 0) = false := by simpa using h0
  have HT := Lib.hid hT; have H0 := Lib.hid h0; clear hT h0
  go_enter Tryd.func27, Tryd.ntmps27
  go_wp2_with fail
  refine (list_any s _ hs HT.out).mono ?_
  rintro e w1 ⟨y, rfl, ho, hb⟩
  obtain ⟨A, cap, rfl, hr⟩ := ho.rd (by intro n hn; obtain ⟨i, hi, rfl⟩ := List.mem_map.1 hn; have := (mem_upto.1 hi).1; omega) (by rw [ints_len]; omega)
  rw [ints_len]
  have HB := Lib.hid hb; have HR := Lib.hid hr; clear hb hr ho
  obtain ⟨L, hL⟩ : ∃ L, L = upto s 16 := ⟨_, rfl⟩
  have hmem : ∀ i ∈ L, i < 16 := fun i hi => by rw [hL] at hi; exact (mem_upto.1 hi).1
  rw [← hL] at h16 HR ⊢
  have HL := Lib.hid hL; have HM := Lib.hid hmem; clear hL hmem
  go_wp2
  go_loopw [3, 11] (fun l i wr => ∃ (k : Nat) (y : Value), k ≤ L.length ∧ i = .int .i64 k ∧ y = l ∧ OwnS w1.heap.size (strs (L.take k)) y wr ∧ Below w1.heap.size w1 wr) (fun _ i _ => L.length - (intOf i).toNat)
  case atStart => exact ⟨0, _, Nat.zero_le _, rfl, rfl, World.ownsRow_nil _ _ _ _, Below.refl _ _⟩
  case round =>
    obtain ⟨k, l, hk, rfl, rfl, ho, hb⟩ := hrel
    by_cases h0 : k < L.length
    · have hr := HR.out.below hb
      obtain ⟨b, off, rfl, hc⟩ := hr.2.2 (by rw [ints_len]; omega)
      have hcell := hc k (by rw [ints_len]; exact h0)
      have hg : (ints L).getD k 0 = (L.getD k 0 : Nat) := by
        unfold ints; rw [List.getD_eq_getElem?_getD, List.getElem?_map, List.getD_eq_getElem?_getD, List.getElem?_eq_getElem h0]; rfl
      rw [hg] at hcell
      have hsu := strs_succ L k h0
      have hi16 : L.getD k 0 < 16 := HM.out _ (by rw [List.getD_eq_getElem?_getD, List.getElem?_eq_getElem h0]; exact List.getElem_mem h0)
      obtain ⟨c, hC⟩ : ∃ c, c = L.getD k 0 := ⟨_, rfl⟩
      rw [← hC] at hcell hi16 hsu
      have ho1 : wr.ownsRow w1.heap.size 9 1 l k ((strs (L.take k)).map Value.string) := by have := ho; unfold OwnS at this; rwa [strs_len, List.length_take, Nat.min_eq_left hk] at this
      have HO := Lib.hid ho1; have HS := Lib.hid hsu; have HB1 := Lib.hid hb
      clear ho ho1 hsu hb hr hc hC hg
      go_wp2_with fail
      refine (Tryd.strconv_Itoa_small c (by omega) _).mono ?_
      rintro e w' ⟨rfl, rfl⟩
      go_wp2_with (at_builtin; refine wpList_append_own _ rfl _ _ 49 rfl w1.heap.size 9 i0 (.string ⟨#[]⟩) 1 16 Tryd.underlying49 hi hz0 hz1 hz2 rfl (by decide) _ k _ rfl (HO.out.alloc _) ⟨w'.heap.size, 0, none⟩ 1 1 [.string ⟨(Lib.decDigits c).toArray⟩] rfl rfl ?c1 ?c2 ?c3 ?c4 ?c5 ?_)
      case c1 => exact cell_one_new _ _ _
      case c2 => intro u hu; simp at hu; subst hu; rfl
      case c3 => unfold maxLen; omega
      case c4 => omega
      case c5 => have := HB1.out.size; simp; omega
      intro v' w5 hown' hgrow _
      have ho5 : OwnS w1.heap.size (strs (L.take (k + 1))) v' w5 := by
        unfold OwnS
        rw [HS.out, List.map_append, List.length_append, strs_len, List.length_take, Nat.min_eq_left hk]
        exact hown'
      have hb5 : Below w1.heap.size w1 w5 := (HB1.out.alloc (by have := HB1.out.size; omega) _).grown hgrow (by have := HB1.out.size; simp; omega) (fun j hj => (HO.out.lt j hj).1)
      have HO5 := Lib.hid ho5; have HB5 := Lib.hid hb5; clear hown' hgrow ho5 hb5 HO HS
      go_wp2
      go_roundw
      case rel => exact ⟨k + 1, v', by omega, by go_num, rfl, HO5.out, HB5.out⟩
      case measure => simp [intOf]; omega
    · obtain rfl : k = L.length := by omega
      rw [List.take_of_length_le (Nat.le_refl _)] at ho
      have hj := join_len L HM.out
      have htx : txt s = Lib.join (decs L) [44] := by unfold txt; rw [if_neg H0.out, ← HL.out]
      have hjb : Lib.join ((strs L).map (·.data.toList)) (ByteArray.mk #[44]).data.toList = txt s := by rw [strs_bytes, htx]
      have HTX := Lib.hid htx; have HJB := Lib.hid hjb; have HB1 := Lib.hid hb
      clear htx hjb hb
      unfold OwnS at ho
      rcases ho.2 with ⟨rfl, h0⟩ | ⟨g, cap, cur, rfl, hB, hg, hn, hx, hcs, ht⟩
      · rw [strs_len] at h0
        have hnil : txt s = [] := by rw [HTX.out, List.length_eq_zero_iff.1 h0]; rfl
        have HN := Lib.hid hnil; clear hnil ho
        go_wp2_with fail
        refine (Tryd.strings_Join_none none 0 _ _).mono ?_
        rintro e w' ⟨rfl, rfl⟩
        go_wp2
        go_ret
        exact ⟨by rw [HN.out]; rfl, HB.out.trans (HB1.out.mono HB.out.size)⟩
      · have hcl : ∀ (j : Nat) x, (strs L)[j]? = some x → wr.cell? ⟨g, 0 + j, none⟩ = some (.string x) := by
          intro j x hj
          have hjl : j < (strs L).length := by
            rcases Nat.lt_or_ge j (strs L).length with h | h
            · exact h
            · rw [List.getElem?_eq_none h] at hj; cases hj
          rw [Nat.zero_add, cell_of_row wr g j cur _ _ hg]
          have e : (cur.toList.take ((strs L).length * 1))[j]? = some (.string x) := by
            rw [ht, List.getElem?_map, hj]; rfl
          rw [List.getElem?_take_of_lt (by omega)] at e
          simpa using e
        have hgs : g < wr.heap.size := by
          rcases Nat.lt_or_ge g wr.heap.size with h | h
          · exact h
          · rw [Array.getElem?_eq_none h] at hg; cases hg
        have hJ := Tryd.strings_Join g 0 cap (strs L) ⟨#[44]⟩ wr hcl hgs (by rw [strs_len]; omega) hn (by rw [HJB.out, HTX.out]; omega)
        rw [HJB.out, strs_len] at hJ
        rw [strs_len]
        have HJ := Lib.hid hJ; clear hJ hcl ho hg hcs ht hn hx hB
        go_wp2_with fail
        refine HJ.out.mono ?_
        rintro e w' ⟨rfl, hb9⟩
        have HB9 := Lib.hid hb9; clear hb9
        go_wp2
        go_ret
        exact ⟨rfl, (HB.out.trans (HB1.out.mono HB.out.size)).trans (HB9.out.mono (by have := HB.out.size; have := HB1.out.size; omega))⟩
end Go.Proofs.YtkddhjbdijegoaaDoor
