/-
  What copied, Trim of package msg and bytes.Equal answer and leave in memory; a slice of bytes that came in. Contracts over the translation; each says its own conditions.
-/
import Derived.Test.YtkddhjbdijegoaaDoorMsA15
import Derived.Test.YtkddhjbdijegoaaDoorApp13
import Derived.Test.YtkddhjbdijegoaaDoorWordGP
import Derived.Lib.SlicesS
namespace Go.Proofs.YtkddhjbdijegoaaDoor
open Go.RowKit
set_option linter.unusedVariables false
set_option linter.unusedSimpArgs false

/-- a slice value whose bytes are d -/
structure Dat (w : World) (A : Option Addr) (n cap : Nat) (d : List Int) : Prop where
  rd : Rd w A d
  len : d.length = n
  nil : A = none → cap = 0
  lc : n ≤ cap
theorem Dat.le {w : World} {A : Option Addr} {n cap : Nat} {d : List Int} (h : Dat w A n cap d) : n ≤ 9223372036854775807 := by rw [← h.len]; exact h.rd.2.1
theorem Dat.below {w w' : World} {A : Option Addr} {n cap : Nat} {d : List Int} (h : Dat w A n cap d) (hb : Below w.heap.size w w') : Dat w' A n cap d := ⟨h.rd.below hb, h.len, h.nil, h.lc⟩
theorem Dat.none0 {w : World} {n cap : Nat} {d : List Int} (h : Dat w none n cap d) : n = 0 ∧ cap = 0 ∧ d = [] := by
  have h0 : d.length = 0 := by
    rcases Nat.eq_zero_or_pos d.length with h0 | h0
    · exact h0
    · obtain ⟨_, _, e, _⟩ := h.rd.2.2 h0; cases e
  exact ⟨by rw [← h.len, h0], h.nil rfl, List.length_eq_zero_iff.1 h0⟩
theorem Dat.src {w : World} {A : Option Addr} {n cap : Nat} {d : List Int} (h : Dat w A n cap d) : Src w (.slice A n cap) n (d.map (Value.int .u8)) := by
  cases A with
  | none => obtain ⟨rfl, rfl, rfl⟩ := h.none0; exact .inl ⟨rfl, rfl, rfl⟩
  | some a => exact .inr ⟨a, cap, rfl, fun j u hj => h.rd.cells j u hj⟩
theorem OwnV.dat {B : Nat} {l : List Int} {v : Value} {w : World} (h : OwnV B l v w) (hb : Byt l) : ∃ A cap, v = .slice A l.length cap ∧ Dat w A l.length cap l := by
  have hm : l.length ≤ 9223372036854775807 := by
    rcases h.2 with ⟨_, h0⟩ | ⟨g, cap, cur, _, _, _, hn, hm, _⟩
    · omega
    · unfold maxLen at hm; omega
  obtain ⟨A, cap, rfl, hr⟩ := h.rd hb hm
  refine ⟨A, cap, rfl, hr, rfl, fun e => ?_, ?_⟩
  · subst e
    rcases h.2 with ⟨e, _⟩ | ⟨g, cap', cur, e, _⟩
    · injection e
    · injection e with e; cases e
  · rcases h.2 with ⟨_, h0⟩ | ⟨g, cap', cur, e, _, _, hn, _⟩
    · omega
    · injection e with _ _ e; omega
theorem copied_any (A : Option Addr) (n cap : Nat) (d : List Int) (w : World) (h : Dat w A n cap d) (hb : n ≤ 140737488355328) : Calls Tryd.prog 23 #[.slice A n cap] w fun e w' => Owned w.heap.size d e w w' := by
  obtain ⟨i0, hi, hz0, hz1, hz2⟩ := info_parts info_u8
  go_enter Tryd.func23, Tryd.ntmps23
  go_wp2_with (at_builtin; refine wpList_append_src rfl _ _ 24 rfl w.heap.size 5 i0 (.int .u8 0) 1 1 Tryd.underlying24 hi hz0 hz1 hz2 rfl (by decide) _ 0 [] rfl (World.ownsRow_nil _ _ _ _) _ n (d.map (Value.int .u8)) rfl h.src ?c1 ?c2 ?c3 ?c4 (Nat.le_refl _) ?_)
  case c1 => rw [List.length_map, h.len, Nat.mul_one]
  case c2 => intro u hu; obtain ⟨x, _, rfl⟩ := List.mem_map.1 hu; rfl
  case c3 => unfold maxLen; omega
  case c4 => omega
  intro v' w' ho hg
  have ho' : OwnV w.heap.size d v' w' := by unfold OwnV; rw [h.len]; exact ho
  have hbel := (Below.refl w.heap.size w).grown hg (Nat.le_refl _) (fun k hk => by cases hk)
  have HO := Lib.hid ho'; have HB := Lib.hid hbel
  clear ho ho' hg hbel
  go_wp2
  go_ret
  exact ⟨_, rfl, HO.out, HB.out⟩
theorem trim_any (A : Option Addr) (n cap : Nat) (d : List Int) (w : World) (h : Dat w A n cap d) (hb : n ≤ 140737488355328) : Calls Tryd.prog 18 #[.slice A n cap] w fun e w' => Owned w.heap.size (d.take (trimN d n)) e w w' := by
  cases A with
  | none =>
    obtain ⟨rfl, rfl, rfl⟩ := h.none0
    have hc := fun w => copied_any none 0 0 [] w ⟨⟨Byt.nil, by simp, fun h => by simp at h⟩, rfl, fun _ => rfl, Nat.le_refl _⟩ (by decide)
    have HC := Lib.hid hc
    clear hc h
    go_enter Tryd.func18, Tryd.ntmps18
    go_wp2
    go_loop [3] (fun v => v = .int .i64 0) (fun _ => 0)
    case atStart => rfl
    case round =>
      obtain rfl := hrel
      go_wp2_with fail
      refine (HC.out _).mono ?_
      rintro e w' ⟨v, rfl, ho, hb⟩
      go_wp2
      go_ret
      exact ⟨_, rfl, ho, hb⟩
  | some a =>
    obtain ⟨T, hT⟩ : ∃ T, T = trimN d n := ⟨_, rfl⟩
    rw [← hT]
    have hcl := h.rd.2.2
    have hlen := h.len
    have hsz := h.le
    have hby := h.rd.1
    have HH := Lib.hid h; have HTT := Lib.hid hT
    clear h hT
    go_enter Tryd.func18, Tryd.ntmps18
    go_wp2
    go_loop [3] (fun v => ∃ k : Nat, v = .int .i64 k ∧ k ≤ n ∧ trimN d k = T) (fun v => (intOf v).toNat)
    case atStart => exact ⟨n, rfl, Nat.le_refl _, HTT.out.symm⟩
    case round =>
      obtain ⟨k, rfl, hk, hkt⟩ := hrel
      have leave : trimN d k = k → ∃ c, Dat w (some a) k c (d.take k) ∧ c = cap := fun e => ⟨cap, ⟨HH.out.rd.upto k, by rw [List.length_take]; omega, fun e => (by cases e), by have := HH.out.lc; omega⟩, rfl⟩
      by_cases h0 : k = 0
      · subst h0
        have hT0 : T = 0 := hkt.symm.trans rfl
        obtain ⟨c, hd, rfl⟩ := leave rfl
        have HD := Lib.hid hd
        have HT0 := Lib.hid hT0
        clear hd leave hkt hcl hT0 hlen hby
        go_wp2_with fail
        refine (copied_any _ 0 _ _ _ HD.out (by omega)).mono ?_
        rintro e w' ⟨v, rfl, ho, hb⟩
        go_wp2
        go_ret
        exact ⟨_, rfl, by rw [HT0.out]; exact ho, hb⟩
      · obtain ⟨b, off, hA, hc⟩ := hcl (by omega)
        injection hA with hA
        subst hA
        have hcell := hc (k - 1) (by omega)
        have hq := hby.getD (k - 1)
        have hstep : trimN d k = if d.getD (k - 1) 0 = 0 then trimN d (k - 1) else k := by
          obtain ⟨j, rfl⟩ : ∃ j, k = j + 1 := ⟨k - 1, by omega⟩
          rfl
        obtain ⟨c, hC⟩ : ∃ c, c = d.getD (k - 1) 0 := ⟨_, rfl⟩
        rw [← hC] at hcell hq hstep
        have HL := Lib.hid leave
        clear hc hby hcl hC hlen leave
        by_cases hz : c = 0
        · subst hz
          rw [if_pos rfl] at hstep
          have HS := Lib.hid hstep; have HK := Lib.hid hkt
          clear hstep hkt
          go_wp2
          go_round
          case rel => exact ⟨k - 1, int_eq (by omega), by omega, HS.out.symm.trans HK.out⟩
          case measure => simp [intOf]; omega
        · rw [if_neg hz] at hstep
          obtain ⟨c2, hd, rfl⟩ := HL.out hstep
          have hTk : T = k := hkt.symm.trans hstep
          have HD := Lib.hid hd
          have HTk := Lib.hid hTk
          have hlc := hd.lc
          have hlc2 : n ≤ c2 := HH.out.lc
          have hcz : (c == 0) = false := by simpa using hz
          clear hd hstep hkt hTk
          go_wp2_with fail
          refine (copied_any _ k _ _ _ HD.out (by omega)).mono ?_
          rintro e w' ⟨v, rfl, ho, hb⟩
          go_wp2
          go_ret
          exact ⟨_, rfl, by rw [HTk.out]; exact ho, hb⟩
theorem equal_yes (A A2 : Option Addr) (n n2 cap cap2 : Nat) (d : List Int) (w : World) (h : Dat w A n cap d) (h2 : Dat w A2 n2 cap2 d) : Calls Tryd.prog 24 #[.slice A n cap, .slice A2 n2 cap2] w fun e w' => e = .returned (.bool true) ∧ w = w' := by
  have hc1 := h.rd.conv n cap h.len
  have hc2 := h2.rd.conv n2 cap2 h2.len
  clear h h2
  go_enter Tryd.func24, Tryd.ntmps24
  go_wp2
  go_ret
  exact ⟨by simp, rfl⟩
theorem equal_no (A A2 : Option Addr) (n n2 cap cap2 : Nat) (d d2 : List Int) (w : World) (h : Dat w A n cap d) (h2 : Dat w A2 n2 cap2 d2) (hne : d ≠ d2) : Calls Tryd.prog 24 #[.slice A n cap, .slice A2 n2 cap2] w fun e w' => e = .returned (.bool false) ∧ w = w' := by
  have hc1 := h.rd.conv n cap h.len
  have hc2 := h2.rd.conv n2 cap2 h2.len
  have hs : ((strOfNums d).toList == (strOfNums d2).toList) = false := by
    rw [Lib.bytes_beq_false_iff]; exact fun e => hne (str_inj h.rd.1 h2.rd.1 e)
  have HS := Lib.hid hs
  clear h h2 hs
  go_enter Tryd.func24, Tryd.ntmps24
  go_wp2
  go_ret
  exact ⟨ret_bool HS.out, rfl⟩
theorem equal_any (A A2 : Option Addr) (n n2 cap cap2 : Nat) (d d2 : List Int) (w : World) (h : Dat w A n cap d) (h2 : Dat w A2 n2 cap2 d2) : Calls Tryd.prog 24 #[.slice A n cap, .slice A2 n2 cap2] w fun e w' => e = .returned (.bool (decide (d = d2))) ∧ w = w' := by
  by_cases e : d = d2
  · subst e; rw [decide_eq_true rfl]; exact equal_yes A A2 n n2 cap cap2 d w h h2
  · rw [decide_eq_false e]; exact equal_no A A2 n n2 cap cap2 d d2 w h h2 e
end Go.Proofs.YtkddhjbdijegoaaDoor
