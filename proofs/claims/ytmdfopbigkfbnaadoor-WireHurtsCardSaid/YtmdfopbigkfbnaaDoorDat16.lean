/-
  A slice of bytes that came in; what bytes.Equal and word.Bytes answer. Contracts over the translation; each says its own conditions.
-/
import Derived.Test.YtmdfopbigkfbnaaDoorPl16
import Derived.Test.YtmdfopbigkfbnaaDoorPte08
import Derived.Test.YtmdfopbigkfbnaaDoorApp13
import Derived.Test.YtmdfopbigkfbnaaDoorWordGP
import Derived.Lib.SlicesS
import Derived.Deep.Cut
import Derived.OwnWalk
namespace Go.Proofs.YtmdfopbigkfbnaaDoor
open Go.RowKit
set_option linter.unusedVariables false
set_option linter.unusedSimpArgs false
attribute [local go_sem] setCell_drewN alloc_drewN

theorem Rd.at_ {w : World} {A : Option Addr} {l : List Int} (h : Rd w A l) (i : Nat) (hi : i < l.length) : ∃ b off, A = some ⟨b, off, none⟩ ∧ w.cell? ⟨b, off + i, none⟩ = some (.int .u8 (l.getD i 0)) := by
  obtain ⟨b, off, rfl, hc⟩ := h.2.2 (by omega)
  exact ⟨b, off, rfl, hc i hi⟩
/-- a slice value whose bytes are d -/
structure Dat (w : World) (A : Option Addr) (n cap : Nat) (d : List Int) : Prop where
  rd : Rd w A d
  len : d.length = n
  nil : A = none → cap = 0
  lc : n ≤ cap
theorem Dat.le {w : World} {A : Option Addr} {n cap : Nat} {d : List Int} (h : Dat w A n cap d) : n ≤ 9223372036854775807 := by rw [← h.len]; exact h.rd.2.1
theorem Dat.below {w w' : World} {A : Option Addr} {n cap : Nat} {d : List Int} (h : Dat w A n cap d) (hb : Below w.heap.size w w') : Dat w' A n cap d := ⟨h.rd.below hb, h.len, h.nil, h.lc⟩
theorem Dat.none0 {w : World} {n cap : Nat} {d : List Int} (h : Dat w none n cap d) : n = 0 ∧ cap = 0 ∧ d = [] := by
  have h0 : d.length = 0 := by
    rcases Nat.eq_zero_or_pos d.length with h0 | h0
    · exact h0
    · obtain ⟨_, _, e, _⟩ := h.rd.2.2 h0; cases e
  exact ⟨by rw [← h.len, h0], h.nil rfl, List.length_eq_zero_iff.1 h0⟩
theorem Dat.src {w : World} {A : Option Addr} {n cap : Nat} {d : List Int} (h : Dat w A n cap d) : Src w (.slice A n cap) n (d.map (Value.int .u8)) := by
  cases A with
  | none => obtain ⟨rfl, rfl, rfl⟩ := h.none0; exact .inl ⟨rfl, rfl, rfl⟩
  | some a => exact .inr ⟨a, cap, rfl, fun j u hj => h.rd.cells j u hj⟩
theorem OwnV.dat {B : Nat} {l : List Int} {v : Value} {w : World} (h : OwnV B l v w) (hb : Byt l) : ∃ A cap, v = .slice A l.length cap ∧ Dat w A l.length cap l := by
  have hm : l.length ≤ 9223372036854775807 := by
    rcases h.2 with ⟨_, h0⟩ | ⟨g, cap, cur, _, _, _, hn, hm, _⟩
    · omega
    · unfold maxLen at hm; omega
  obtain ⟨A, cap, rfl, hr⟩ := h.rd hb hm
  refine ⟨A, cap, rfl, hr, rfl, fun e => ?_, ?_⟩
  · subst e
    rcases h.2 with ⟨e, _⟩ | ⟨g, cap', cur, e, _⟩
    · injection e
    · injection e with e; cases e
  · rcases h.2 with ⟨_, h0⟩ | ⟨g, cap', cur, e, _, _, hn, _⟩
    · omega
    · injection e with _ _ e; omega
theorem equal_yes (A A2 : Option Addr) (n n2 cap cap2 : Nat) (d : List Int) (w : World) (h : Dat w A n cap d) (h2 : Dat w A2 n2 cap2 d) : Calls Tryd.prog 26 #[.slice A n cap, .slice A2 n2 cap2] w fun e w' => e = .returned (.bool true) ∧ w = w' := by
  have hc1 := h.rd.conv n cap h.len
  have hc2 := h2.rd.conv n2 cap2 h2.len
  clear h h2
  go_enter Tryd.func26, Tryd.ntmps26
  go_wp2
  go_ret
  exact ⟨by simp, rfl⟩
theorem equal_no (A A2 : Option Addr) (n n2 cap cap2 : Nat) (d d2 : List Int) (w : World) (h : Dat w A n cap d) (h2 : Dat w A2 n2 cap2 d2) (hne : d ≠ d2) : Calls Tryd.prog 26 #[.slice A n cap, .slice A2 n2 cap2] w fun e w' => e = .returned (.bool false) ∧ w = w' := by
  have hc1 := h.rd.conv n cap h.len
  have hc2 := h2.rd.conv n2 cap2 h2.len
  have hs : ((strOfNums d).toList == (strOfNums d2).toList) = false := by
    rw [Lib.bytes_beq_false_iff]; exact fun e => hne (str_inj h.rd.1 h2.rd.1 e)
  have HS := Lib.hid hs
  clear h h2 hs
  go_enter Tryd.func26, Tryd.ntmps26
  go_wp2
  go_ret
  exact ⟨ret_bool HS.out, rfl⟩
theorem equal_any (A A2 : Option Addr) (n n2 cap cap2 : Nat) (d d2 : List Int) (w : World) (h : Dat w A n cap d) (h2 : Dat w A2 n2 cap2 d2) : Calls Tryd.prog 26 #[.slice A n cap, .slice A2 n2 cap2] w fun e w' => e = .returned (.bool (decide (d = d2))) ∧ w = w' := by
  by_cases e : d = d2
  · subst e; rw [decide_eq_true rfl]; exact equal_yes A A2 n n2 cap cap2 d w h h2
  · rw [decide_eq_false e]; exact equal_no A A2 n n2 cap cap2 d d2 w h h2 e
theorem Dat.other {w : World} {A : Option Addr} {n cap : Nat} {d : List Int} (h : Dat w A n cap d) (p : Addr) (v : Value) (hp : ∀ b o, A = some ⟨b, o, none⟩ → b ≠ p.block) : Dat (w.setCell p v) A n cap d := by
  refine ⟨⟨h.rd.1, h.rd.2.1, fun h0 => ?_⟩, h.len, h.nil, h.lc⟩
  obtain ⟨b, off, rfl, hc⟩ := h.rd.2.2 h0
  exact ⟨b, off, rfl, fun i hi => (cell_other w ⟨b, off + i, none⟩ p v (hp b off rfl)).trans (hc i hi)⟩
theorem Dat.drew {w : World} {A : Option Addr} {n cap : Nat} {d : List Int} (h : Dat w A n cap d) : Dat w.drew A n cap d := h.below (Below.refl _ _).drew
theorem Dat.from {w : World} {b off n cap : Nat} {d : List Int} (h : Dat w (some ⟨b, off, none⟩) n cap d) (k : Nat) (hk : k ≤ n) : Dat w (some ⟨b, off + k, none⟩) (n - k) (cap - k) (d.drop k) :=
  ⟨h.rd.from_ k, by rw [List.length_drop, h.len], fun e => (by cases e), by have := h.lc; omega⟩
theorem Dat.from2 {w : World} {b off n cap : Nat} {d : List Int} (h : Dat w (some ⟨b, off, none⟩) n cap d) (k : Nat) (hk : k ≤ n) : Dat w (if cap = k then some ⟨b, off, none⟩ else some ⟨b, off + k, none⟩) (n - k) (cap - k) (d.drop k) := by
  by_cases e : cap = k
  · rw [if_pos e]
    have hl := h.lc
    have hn := h.len
    have h1 := h.from k hk
    have hz : d.drop k = [] := List.drop_eq_nil_of_le (by omega)
    refine ⟨⟨h1.rd.1, h1.rd.2.1, fun h0 => ?_⟩, h1.len, fun e => (by cases e), h1.lc⟩
    rw [hz] at h0; simp at h0
  · rw [if_neg e]; exact h.from k hk
theorem own_base15 {w : World} {B B' t n : Nat} {v : Value} {xs : List Value} (h : w.ownsRow B t 1 v n xs) (hB : B' ≤ B) : w.ownsRow B' t 1 v n xs := by
  refine ⟨h.1, ?_⟩
  rcases h.2 with h0 | ⟨g, cap, cur, e, hb, r⟩
  · exact .inl h0
  · exact .inr ⟨g, cap, cur, e, Nat.le_trans hB hb, r⟩
theorem rd_blk {w : World} {b t : Nat} {cs : List Int} (h : Blk w b (cs.map (Value.int .u8)) t) (hc : Byt cs) (hl : cs.length ≤ 9223372036854775807) : Rd w (some ⟨b, 0, none⟩) cs := by
  refine ⟨hc, hl, fun _ => ⟨b, 0, rfl, fun i hi => ?_⟩⟩
  rw [Nat.zero_add, h.cell i, List.getElem?_map, List.getD_eq_getElem?_getD, List.getElem?_eq_getElem hi]; rfl
theorem bytes_yes (v : Int) (s : Nat) (w : World) (h : SzI s) (h0 : 0 ≤ v) (h1 : v ≤ 18446744073709551615) : Calls Tryd.prog 17 #[.int .u64 v, .int .i64 s] w fun e w' => Made w.heap.size (byt v s) e w w' := by
  obtain ⟨i0, hi, hz0, hz1, hz2⟩ := info_parts info_u8
  have hs8 : s ≤ 8 := by unfold SzI at h; omega
  have hin : InB s 0 s := ⟨h, by omega, by omega⟩
  go_enter Tryd.func17, Tryd.ntmps17
  go_wp2_with fail
  refine (size_yes _ _ h).mono ?_
  rintro e w' ⟨rfl, rfl⟩
  go_wp2_with (at_make; refine wpList_make_full _ rfl _ _ 23 rfl w.heap.size 5 i0 (.int .u8 0) 1 Tryd.underlying23 hi hz0 hz1 .i64 .i64 _ _ s rfl rfl rfl rfl ?c1 ?c2 (Nat.le_refl _) ?_)
  case c1 => rw [hz2]; omega
  case c2 => unfold maxLen; omega
  intro w1 hown hgr
  rw [toList_madeCells_one, ← List.map_replicate] at hown
  have HO := Lib.hid hown; clear hown
  have HG := Lib.hid hgr; clear hgr
  go_wp2_with fail
  refine (put_yes _ s s 0 s v _ _ _ h0 h1 (by omega) hin HO.out).mono ?_
  rintro e w2 ⟨rfl, ho, hb⟩
  rw [lay_all _ _ (by rw [byt_len, List.length_replicate])] at ho
  have HO2 := Lib.hid ho; clear ho
  have HB := Lib.hid hb; clear hb
  go_wp2
  go_ret
  refine ⟨_, rfl, ⟨w.heap.size, s, by rw [byt_len]; rfl, by rw [byt_len]; exact HO2.out⟩, ?_⟩
  exact ((Below.refl _ _).grown HG.out (Nat.le_refl _) (fun k hk => by cases hk)).trans HB.out
end Go.Proofs.YtmdfopbigkfbnaaDoor
