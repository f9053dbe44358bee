/-
  FramesOnce: the walk over the translation.
-/
import Derived.Test.YtbfnbiadmmpaaaaLaw07
import Derived.Deep.RegionHeld
import Derived.Deep.RegionWith
import Derived.Deep.RegionHeld3
namespace Go.Proofs.Ytbfnbiadmmpaaaa
open Go.RowKit
set_option linter.unusedVariables false
set_option linter.unusedSimpArgs false

/-- a stock, and a row of the law's own, apart -/
structure Hav (w w1 : World) (sp n : Nat) (F : Nat → Prop) (L T H : List Int) (v : Value) : Prop where
  stk : StkL w1 sp F L T 5 n
  fF : ∀ k, F k → w.heap.size ≤ k
  row : w1.ownsRow w.heap.size 3 1 v H.length (H.map (Value.int .i64))
  ap : ∀ k, v.ownBlock = some k → ¬ F k
  chg : Chg no w w1
section
variable {w w1 w2 : World} {sp n : Nat} {F F' Fr : Nat → Prop} {L T L' T' H H' : List Int} {v v' : Value}
theorem Hav.any (h : Hav w w1 sp n F L T H v) (hc : Chg no w1 w2) : Hav w w2 sp n F L T H v :=
  ⟨h.stk.chg hc (fun _ _ h => h), h.fF, own_chg h.row hc (fun _ _ h => h), h.ap, h.chg.trans hc⟩
theorem Hav.step (h : Hav w w1 sp n F L T H v) (hs : StkL w2 sp F' L' T' 5 n) (hx : Ext w1 F F') (hc : Chg F w1 w2) : Hav w w2 sp n F' L' T' H v :=
  ⟨hs, fun k hk => (hx k hk).elim (h.fF k) (fun e => Nat.le_trans h.chg.size e), own_chg h.row hc h.ap, fun k hk hf => (hx k hf).elim (h.ap k hk) (fun e => by have := (h.row.lt k hk).2; omega), h.chg.thenOwn hc h.fF⟩
theorem Hav.put (h : Hav w w1 sp n F L T H v) (hc : Chg Fr w1 w2) (h1 : ∀ k, F k → ¬ Fr k) (h2 : ∀ k, Fr k → w.heap.size ≤ k) (hr : w2.ownsRow w.heap.size 3 1 v' H'.length (H'.map (Value.int .i64))) (hd : ∀ k, v'.ownBlock = some k → ¬ F k) : Hav w w2 sp n F L T H' v' :=
  ⟨h.stk.chg hc h1, h.fF, hr, hd, h.chg.thenOwn hc h2⟩
theorem Hav.len (h : Hav w w1 sp n F L T H v) : L.length + T.length = n := h.stk.all.1.len
end
theorem mem_eraseIdx_perm {T H : List Int} {f : Int} {k : Nat} (hp : T.Perm H) (hn : T.Nodup) (hk : H[k]? = some f) : (without f T).Perm (H.take k ++ H.drop (k + 1)) := by
  have hlt : k < H.length := by
    rcases Nat.lt_or_ge k H.length with h | h
    · exact h
    · rw [List.getElem?_eq_none h] at hk; cases hk
  have hf : H[k] = f := by rw [List.getElem?_eq_getElem hlt] at hk; injection hk
  have hfT : f ∈ T := hp.mem_iff.2 (hf ▸ List.getElem_mem hlt)
  have h1 := without_perm hn hfT
  have h2 : H = H.take k ++ f :: H.drop (k + 1) := by
    rw [← hf, ← List.drop_eq_getElem_cons hlt, List.take_append_drop]
  have h3 : H.Perm (f :: (H.take k ++ H.drop (k + 1))) := by
    conv => lhs; rw [h2]
    exact List.perm_middle
  exact ((h1.symm.trans hp).trans h3).cons_inv
/-- a slice of bytes that came in -/
def RdB (w : World) (A : Option Addr) (Y : Nat) (l : List Int) : Prop := l = [] ∨ ∃ off, A = some ⟨Y, off, none⟩ ∧ Y < w.heap.size ∧ ∀ i (h : i < l.length), w.cell? ⟨Y, off + i, none⟩ = some (.int .u8 l[i])
set_option maxRecDepth 100000 in
set_option maxHeartbeats 4000000 in
theorem once_walk (n : Nat) (A : Option Addr) (Y0 len cap : Nat) (l : List Int) (w : World) (hn255 : n ≤ 255) (hs : RdB w A Y0 l) (hl : l.length = len) (hlm : len ≤ 9223372036854775807) (hI : ∀ x ∈ l, 0 ≤ x ∧ x ≤ 255) :
    Calls Try.prog 5 #[.int .u8 n, .slice A len cap] w fun e w' => e = .returned (.bool true) ∧ Below w.heap.size w w' := by
  obtain ⟨i0, hi, hz0, hz1, hz2⟩ := info_parts infoI
  have HS := Lib.hid hs; have HL := Lib.hid hl; have HI := Lib.hid hI
  clear hs hl hI
  go_enter Try.func5, Try.ntmps5
  go_wp2_with fail
  refine (firstL w).mono ?_
  rintro e w1 ⟨rfl, hc1⟩
  have HC1 := Lib.hid hc1; clear hc1
  go_wp2_with fail
  refine (one_new w w1 5 n HC1.out (by omega) (by omega)).mono ?_
  rintro e w2 ⟨sp, rfl, F0, hs, hF, hc2⟩
  have hP : Hav w w2 sp n F0 (upto 5 n) [] [] (.slice none 0 0) := ⟨hs, hF, World.ownsRow_nil _ _ _ _, (fun k h => by cases h), hc2⟩
  have HP := Lib.hid hP
  clear hs hF hc2 HC1 hP
  go_wp2
  go_loopw [7, 26] (fun v i wr => ∃ (k : Nat) (F : Nat → Prop) (L T H : List Int), k ≤ len ∧ k ≤ 200 ∧ i = .int .i64 k ∧ Hav w wr sp n F L T H v ∧ T.Perm H) (fun v i _ => len - (intOf i).toNat)
  case atStart => exact ⟨0, _, _, _, _, Nat.zero_le _, Nat.zero_le _, rfl, HP.out, List.Perm.refl _⟩
  case round =>
    clear HP
    obtain ⟨k, F, L, T, H, hk, hk200, rfl, hp, hperm⟩ := hrel
    have hchg := hp.chg
    obtain ⟨A7, c7, rfl⟩ := own_slice hp.row
    obtain ⟨m, hm⟩ : ∃ m, m = H.length := ⟨_, rfl⟩
    have hlens := hp.len
    have hpl := hperm.length_eq
    rw [← hm] at hpl
    have hrow := hp.row
    rw [← hm] at hrow
    have HM := Lib.hid hm; have HPERM := Lib.hid hperm; have HV := Lib.hid hp; have HROW := Lib.hid hrow
    rw [← hm] at HV
    clear hperm hp hrow
    by_cases hlt : k < len
    · have hkl : k < l.length := by rw [HL.out]; exact hlt
      rcases HS.out with h | ⟨off, rfl, hY, hcl⟩
      · rw [h] at hkl; exact absurd hkl (Nat.not_lt_zero _)
      have e1 := hcl k hkl
      rw [← World.cell?_of_block (w := w) (a := ⟨Y0, off + k, none⟩) (hchg.block Y0 hY (fun h => h))] at e1
      have hIx := HI.out l[k] (List.getElem_mem hkl)
      obtain ⟨x, hx⟩ : ∃ x, x = l[k] := ⟨_, rfl⟩
      rw [← hx] at e1 hIx
      obtain ⟨hx0, hx1⟩ := hIx
      clear hx hcl hkl
      rw [← hm]
      clear hm
      by_cases h200 : 200 ≤ k
      · have hfin := Lib.hid hchg.none
        clear hchg
        go_wp2
        go_ret
        exact ⟨rfl, hfin.out⟩
      · have h200' : ¬ (200 : Int) ≤ (k : Int) := by omega
        clear hchg
        by_cases h3 : 0 < x % 3
        · rcases L with _ | ⟨f, L⟩
          · have hmn : ¬ (m < n) := by rw [List.length_nil] at hlens; omega
            go_wp2_with fail
            refine (take_none sp n wr HV.out.stk).mono ?_
            rintro e w4 ⟨rfl, j, rfl⟩
            have HV4 := Lib.hid (HV.out.any (Chg.drewN no wr j))
            clear HV HROW e1
            go_wp2
            go_roundw
            case rel => exact ⟨k + 1, F, [], T, H, hlt, by omega, by go_num, HV4.out, HPERM.out⟩
            case measure => simp [intOf]; omega
          · have hmn : m < n := by rw [List.length_cons] at hlens; omega
            have hall := HV.out.stk.all.1
            have hfresh := hall.fresh
            have hfb := hall.at_ f (by simp)
            have hf5 : 5 ≤ f := hfb.1
            have hfn : f < 5 + (n : Int) := hfb.2
            have hfI : I64 f := by unfold I64; omega
            have hfH : f ∉ H := fun h => hfresh (HPERM.out.mem_iff.2 h)
            have HFH := Lib.hid hfH
            clear hall hfresh hfb hfH
            go_wp2_with fail
            refine (take_some sp n f wr HV.out.stk).mono ?_
            rintro e w4 ⟨rfl, hs4, hc4⟩
            have hv4 := HV.out.step hs4 (fun k hk => .inl hk) hc4
            have hrow4 := hv4.row
            rw [← HM.out] at hrow4
            have ct := fun W (hc : Chg no w4 W) => taken_at sp n f W (hv4.stk.chg hc (fun _ _ h => h)) hfI
            rw [show decide (f ∈ T ++ [f]) = true from by simp] at ct
            have HV4 := Lib.hid hv4; have HROW4 := Lib.hid hrow4; have CT := Lib.hid ct
            clear HV HROW e1 hs4 hc4 hv4 hrow4 ct
            go_wp2
            go_loopw [58] (fun i wq => ∃ j : Nat, j ≤ m ∧ i = .int .i64 j ∧ Chg no w4 wq) (fun i _ => m - (intOf i).toNat)
            case atStart => exact ⟨0, Nat.zero_le _, rfl, Chg.refl _ _⟩
            case round =>
              obtain ⟨j, hj, rfl, hcq⟩ := hrel
              by_cases hjm : j < m
              · have hrq := own_chg HROW4.out hcq (fun _ _ h => h)
                obtain ⟨g, cg, hvg, -, -⟩ := hrq.form (by omega)
                injection hvg with z1 _ z2
                subst z1 z2
                have hjl : j < H.length := by rw [← HM.out]; exact hjm
                have e2 : wr.cell? ⟨g, j, none⟩ = some (.int .i64 H[j]) := (hrq.cellAt j (by omega)).trans (by rw [List.getElem?_map, List.getElem?_eq_getElem hjl]; rfl)
                have hyf : ¬ H[j] = f := fun e => HFH.out (e ▸ List.getElem_mem hjl)
                have hle : m ≤ c7 := by
                  rcases hrq.2 with ⟨h, _⟩ | ⟨g', cap, cur, h, _, _, h1, _⟩
                  · cases h
                  · injection h with _ _ h3; omega
                obtain ⟨y, hy⟩ : ∃ y, y = H[j] := ⟨_, rfl⟩
                rw [← hy] at e2 hyf
                have HC := Lib.hid hcq
                clear hy hjl hrq hcq
                go_wp2
                go_roundw
                case rel => exact ⟨j + 1, hjm, by go_num, HC.out⟩
                case measure => simp [intOf]; omega
              · obtain rfl : j = m := by omega
                have HC := Lib.hid hcq
                clear hcq
                go_wp2_with fail
                refine (CT.out wr HC.out).mono ?_
                rintro e w6 ⟨rfl, hc6⟩
                have hv6 := HV4.out.any (HC.out.trans hc6)
                have hrow6 := hv6.row
                rw [← HM.out] at hrow6
                have HV6 := Lib.hid hv6; have HROW6 := Lib.hid hrow6
                clear hv6 hrow6 hc6 HC HV4 HROW4 CT
                go_wp2_with (at_builtin; refine wpList_append_lies _ rfl _ _ 22 rfl w.heap.size 3 i0 (.int .i64 0) 1 8 Try.underlying22 hi hz0 hz1 hz2 rfl (by decide) _ j (H.map (Value.int .i64)) rfl (HROW6.out.alloc _) ⟨w6.heap.size, 0, none⟩ 1 1 [.int .i64 f] rfl rfl ?c1 ?c2 ?c3 ?c4 ?c5 ?c6 (w6.heap.size + 1) ?c7 ?_)
                case c1 => exact cell_one_new _ _ _
                case c2 => exact ints_one (l := [f])
                case c3 => omega
                case c4 => unfold maxLen; omega
                case c5 => omega
                case c6 => simp; have := HV6.out.chg.size; omega
                case c7 => simp
                intro g cg w8 hown hgr hat hlt8
                have hv8 : Hav w w8 sp n F L (T ++ [f]) (H ++ [f]) (.slice (some ⟨g, 0, none⟩) (j + 1) cg) := by
                  have h6 := HV6.out
                  have hlt6 := h6.stk.lt
                  refine h6.put (Fr := fun i => (Value.slice A7 j c7).ownBlock = some i) ((Chg.alloc _ _ _).trans (Chg.grown hgr (fun i hi _ => hi))) (fun i hi e => ?_) (fun i e => ?_) ?_ (fun i e hi => ?_)
                  · exact h6.ap i e hi
                  · exact own_from HROW6.out i e
                  · rw [List.length_append, ← HM.out, List.map_append]; exact hown
                  · injection e with e
                    have e : g = i := e
                    subst e
                    rcases hat with h | h
                    · exact h6.ap g h hi
                    · have := hlt6 g hi; omega
                have HV8 := Lib.hid hv8
                clear hown hgr hat hv8 HV6 HROW6
                go_wp2
                go_roundw
                case rel => exact ⟨k + 1, F, L, T ++ [f], H ++ [f], hlt, by omega, by go_num, HV8.out, HPERM.out.append_right [f]⟩
                case measure => simp [intOf]; omega
        · by_cases hm0 : m = 0
          · have hm0' : ((m : Int) == 0) = true := by simp; omega
            have HM0 := Lib.hid hm0
            clear hm0
            rcases L with _ | ⟨f, L⟩
            · have hmn : ¬ (m < n) := by rw [List.length_nil] at hlens; omega
              go_wp2_with fail
              refine (take_none sp n wr HV.out.stk).mono ?_
              rintro e w4 ⟨rfl, j, rfl⟩
              have HV4 := Lib.hid (HV.out.any (Chg.drewN no wr j))
              clear HV HROW e1
              go_wp2
              go_roundw
              case rel => exact ⟨k + 1, F, [], T, H, hlt, by omega, by go_num, HV4.out, HPERM.out⟩
              case measure => simp [intOf]; omega
            · have hmn : m < n := by rw [List.length_cons] at hlens; omega
              have hall := HV.out.stk.all.1
              have hfresh := hall.fresh
              have hfb := hall.at_ f (by simp)
              have hf5 : 5 ≤ f := hfb.1
              have hfn : f < 5 + (n : Int) := hfb.2
              have hfI : I64 f := by unfold I64; omega
              have hfH : f ∉ H := fun h => hfresh (HPERM.out.mem_iff.2 h)
              have HFH := Lib.hid hfH
              clear hall hfresh hfb hfH
              go_wp2_with fail
              refine (take_some sp n f wr HV.out.stk).mono ?_
              rintro e w4 ⟨rfl, hs4, hc4⟩
              have hv4 := HV.out.step hs4 (fun k hk => .inl hk) hc4
              have hrow4 := hv4.row
              rw [← HM.out] at hrow4
              have ct := fun W (hc : Chg no w4 W) => taken_at sp n f W (hv4.stk.chg hc (fun _ _ h => h)) hfI
              rw [show decide (f ∈ T ++ [f]) = true from by simp] at ct
              have HV4 := Lib.hid hv4; have HROW4 := Lib.hid hrow4; have CT := Lib.hid ct
              clear HV HROW e1 hs4 hc4 hv4 hrow4 ct
              go_wp2
              go_loopw [58] (fun i wq => ∃ j : Nat, j ≤ m ∧ i = .int .i64 j ∧ Chg no w4 wq) (fun i _ => m - (intOf i).toNat)
              case atStart => exact ⟨0, Nat.zero_le _, rfl, Chg.refl _ _⟩
              case round =>
                obtain ⟨j, hj, rfl, hcq⟩ := hrel
                by_cases hjm : j < m
                · exact absurd hjm (by have := HM0.out; omega)
                · obtain rfl : j = m := by omega
                  have HC := Lib.hid hcq
                  clear hcq
                  go_wp2_with fail
                  refine (CT.out wr HC.out).mono ?_
                  rintro e w6 ⟨rfl, hc6⟩
                  have hv6 := HV4.out.any (HC.out.trans hc6)
                  have hrow6 := hv6.row
                  rw [← HM.out] at hrow6
                  have HV6 := Lib.hid hv6; have HROW6 := Lib.hid hrow6
                  clear hv6 hrow6 hc6 HC HV4 HROW4 CT
                  go_wp2_with (at_builtin; refine wpList_append_lies _ rfl _ _ 22 rfl w.heap.size 3 i0 (.int .i64 0) 1 8 Try.underlying22 hi hz0 hz1 hz2 rfl (by decide) _ j (H.map (Value.int .i64)) rfl (HROW6.out.alloc _) ⟨w6.heap.size, 0, none⟩ 1 1 [.int .i64 f] rfl rfl ?c1 ?c2 ?c3 ?c4 ?c5 ?c6 (w6.heap.size + 1) ?c7 ?_)
                  case c1 => exact cell_one_new _ _ _
                  case c2 => exact ints_one (l := [f])
                  case c3 => omega
                  case c4 => unfold maxLen; omega
                  case c5 => omega
                  case c6 => simp; have := HV6.out.chg.size; omega
                  case c7 => simp
                  intro g cg w8 hown hgr hat hlt8
                  have hv8 : Hav w w8 sp n F L (T ++ [f]) (H ++ [f]) (.slice (some ⟨g, 0, none⟩) (j + 1) cg) := by
                    have h6 := HV6.out
                    have hlt6 := h6.stk.lt
                    refine h6.put (Fr := fun i => (Value.slice A7 j c7).ownBlock = some i) ((Chg.alloc _ _ _).trans (Chg.grown hgr (fun i hi _ => hi))) (fun i hi e => ?_) (fun i e => ?_) ?_ (fun i e hi => ?_)
                    · exact h6.ap i e hi
                    · exact own_from HROW6.out i e
                    · rw [List.length_append, ← HM.out, List.map_append]; exact hown
                    · injection e with e
                      have e : g = i := e
                      subst e
                      rcases hat with h | h
                      · exact h6.ap g h hi
                      · have := hlt6 g hi; omega
                  have HV8 := Lib.hid hv8
                  clear hown hgr hat hv8 HV6 HROW6
                  go_wp2
                  go_roundw
                  case rel => exact ⟨k + 1, F, L, T ++ [f], H ++ [f], hlt, by omega, by go_num, HV8.out, HPERM.out.append_right [f]⟩
                  case measure => simp [intOf]; omega
          · have hm0' : ((m : Int) == 0) = false := by simp; omega
            obtain ⟨q, hq⟩ : ∃ q : Nat, x % (m : Int) = (q : Int) := ⟨(x % (m : Int)).toNat, by have := Int.emod_nonneg x (show (m : Int) ≠ 0 by omega); omega⟩
            have hqm : q < m := by have := Int.emod_lt_of_pos x (show 0 < (m : Int) by omega); omega
            obtain ⟨g, cg, hvg, hgw, hgl⟩ := HROW.out.form (by omega)
            injection hvg with z1 _ z2
            subst z1 z2
            have hql : q < H.length := by rw [← HM.out]; exact hqm
            have e2 : wr.cell? ⟨g, q, none⟩ = some (.int .i64 H[q]) := (HROW.out.cellAt q (by omega)).trans (by rw [List.getElem?_map, List.getElem?_eq_getElem hql]; rfl)
            have hle : m ≤ c7 ∧ c7 ≤ maxLen := by
              rcases HROW.out.2 with ⟨h, _⟩ | ⟨g', cap, cur, h, _, _, h1, h2, _⟩
              · cases h
              · injection h with _ _ h3; omega
            obtain ⟨hle, hcm⟩ := hle
            unfold maxLen at hcm
            obtain ⟨f, hf⟩ : ∃ f, f = H[q] := ⟨_, rfl⟩
            rw [← hf] at e2
            have hfq : H[q]? = some f := by rw [List.getElem?_eq_getElem hql, hf]
            have hfT : f ∈ T := HPERM.out.mem_iff.2 (by rw [hf]; exact List.getElem_mem hql)
            have hall := HV.out.stk.all.1
            have hfb := hall.at_ f (List.mem_append_right _ hfT)
            have hfI : I64 f := by unfold I64; omega
            have hnot : f ∉ without f T := fun h => (without_mem.1 h).2 rfl
            have hperm2 := mem_eraseIdx_perm HPERM.out hall.nodT hfq
            have hwl := without_len hall.nodT hfT
            have HNOT := Lib.hid hnot; have HFT := Lib.hid hfT; have HP2 := Lib.hid hperm2; have HWL := Lib.hid hwl
            clear hf hfq hql hfT hall hfb hnot hperm2 hwl
            go_wp2_with fail
            refine (give_yes sp n f wr HV.out.stk hfI HFT.out).mono ?_
            rintro e w4 ⟨rfl, F4, hs4, hx4, hc4⟩
            have HV4 := Lib.hid (HV.out.step hs4 hx4 hc4)
            clear hs4 hx4 hc4 HV HROW e1 e2
            have ct := taken_at sp n f w4 HV4.out.stk hfI
            rw [show decide (f ∈ without f T) = false from decide_eq_false HNOT.out] at ct
            have CT := Lib.hid ct
            clear ct
            go_wp2_with fail
            refine CT.out.mono ?_
            rintro e w5 ⟨rfl, hc5⟩
            have HV5 := Lib.hid (HV4.out.any hc5)
            clear hc5 CT HV4
            go_wp2_with fail
            refine (give_none sp n f w5 HV5.out.stk hfI HNOT.out).mono ?_
            rintro e w6 ⟨rfl, hc6⟩
            have hv7 : Hav w w6.drew sp n F4 (f :: L) (without f T) H (.slice (some ⟨g, 0, none⟩) m c7) := (HV5.out.any hc6).any (Chg.drew no w6)
            obtain ⟨w7, hw7⟩ : ∃ z, z = w6.drew := ⟨_, rfl⟩
            rw [← hw7] at hv7
            have hrow7 := hv7.row
            rw [← HM.out] at hrow7
            have hcells : ∀ i, i < m → w7.cell? ⟨g, i, none⟩ = some (.int .i64 (H.getD i 0)) := fun i hi => (hrow7.cellAt i (by omega)).trans (by
              have hil : i < H.length := by rw [← HM.out]; exact hi
              rw [List.getElem?_map, List.getD_eq_getElem?_getD, List.getElem?_eq_getElem hil]; rfl)
            have hgl7 : g < w7.heap.size := (hrow7.lt g rfl).2
            have hw07 : w.heap.size ≤ w7.heap.size := hv7.chg.size
            have ho0 : (w7.alloc (.cells #[] 3)).ownsRow w7.heap.size 3 1 (.slice (some ⟨w7.heap.size, 0, none⟩) 0 0) 0 [] := World.ownsRow_made (base := w7.heap.size) (e := 3) (size := 1) w7 #[] 0 (Nat.le_refl _) (Nat.zero_le _) rfl
            have hsrc1 : ∀ j u, ((H.take q).map (Value.int .i64))[j]? = some u → (w7.alloc (.cells #[] 3)).cell? ((⟨g, 0, none⟩ : Addr).add j) = some u := by
              intro j u hu
              rcases Nat.lt_or_ge j q with hjq | hjq
              · have hjl : j < H.length := by rw [← HM.out]; omega
                rw [List.getElem?_map, List.getElem?_take_of_lt hjq, List.getElem?_eq_getElem hjl] at hu
                have h1 := World.cell?_of_block (w := w7) (a := ⟨g, j, none⟩) (Below.heap_alloc w7 (.cells #[] 3) g hgl7)
                rw [Go.WideShapes.add_plain, Nat.zero_add, h1, hcells j (by omega), List.getD_eq_getElem?_getD, List.getElem?_eq_getElem hjl]
                exact hu
              · rw [List.getElem?_eq_none (by rw [List.length_map, List.length_take]; omega)] at hu; cases hu
            have HV7 := Lib.hid hv7; have HCE := Lib.hid hcells; have HO0 := Lib.hid ho0; have HSRC1 := Lib.hid hsrc1
            clear hv7 hrow7 hcells ho0 hsrc1 hc6 HV5
            go_wp2_with fail
            by_cases hcap : c7 = q + 1
            · have hmq : m = q + 1 := by omega
              subst hcap
              subst hmq
              have hqq : (q : Int) ≤ (q : Int) + 1 := by omega
              have hqc7 : q ≤ (q + 1) := by omega
              have hq1m : q + 1 ≤ (q + 1) := by omega
              have hq1i : (q : Int) + 1 ≤ ((q + 1) : Int) := by omega
              have hq0i : 0 ≤ (q : Int) + 1 := by omega
              have hwr : IntKind.i64.wrap ((q : Int) + 1) = (q : Int) + 1 := by simp [IntKind.wrap, IntKind.bits, IntKind.signed]; omega
              have htn : ((q : Int) + 1).toNat = q + 1 := by omega
              refine wp_region_held_drew (S := fun W => True) (by kernel_rfl) trivial (fun hHeld => ?_)
              rw [← hw7]
              clear hw7
              simp only [List.size_toArray, List.length_cons, List.length_nil, Nat.reduceAdd]
              rw [show Array.replicate 11 false = [false, false, false, false, false, false, false, false, false, false, false].toArray from rfl]
              refine wpAnyH_take (i := 1) (v := ?_) rfl (by kernel_rfl) (by kernel_rfl) (by kernel_rfl) (fun _ _ _ h => h) (Or.inl ⟨by rfl, ?yldq⟩) (by assumption) ?_
              case yldq => (intro w hSw; (try dsimp only at hSw); go_simp; try with_reducible rfl)
              try simp only [Act.put, List.setIfInBounds_toArray, List.set_cons_zero, List.set_cons_succ, List.getElem_toArray, List.getElem_cons_succ, List.getElem_cons_zero]
              refine wpAnyH_take (i := 2) (v := ?_) rfl (by kernel_rfl) (by kernel_rfl) (by kernel_rfl) (fun _ _ _ h => h) (Or.inl ⟨by rfl, ?yldq⟩) (by assumption) ?_
              case yldq => (intro w hSw; (try dsimp only at hSw); go_simp; try with_reducible rfl)
              try simp only [Act.put, List.setIfInBounds_toArray, List.set_cons_zero, List.set_cons_succ, List.getElem_toArray, List.getElem_cons_succ, List.getElem_cons_zero]
              refine wpAnyH_take (i := 3) (v := ?_) rfl (by kernel_rfl) (by kernel_rfl) (by kernel_rfl) (fun _ _ _ h => h) (Or.inl ⟨by rfl, ?yldq⟩) (by assumption) ?_
              case yldq => (intro w hSw; (try dsimp only at hSw); go_simp; try with_reducible rfl)
              try simp only [Act.put, List.setIfInBounds_toArray, List.set_cons_zero, List.set_cons_succ, List.getElem_toArray, List.getElem_cons_succ, List.getElem_cons_zero]
              refine wpAnyH_take (i := 5) (v := ?_) rfl (by kernel_rfl) (by kernel_rfl) (by kernel_rfl) (fun _ _ _ h => h) (Or.inl ⟨by rfl, ?yldq⟩) (by assumption) ?_
              case yldq => (intro w hSw; (try dsimp only at hSw); go_simp; try with_reducible rfl)
              try simp only [Act.put, List.setIfInBounds_toArray, List.set_cons_zero, List.set_cons_succ, List.getElem_toArray, List.getElem_cons_succ, List.getElem_cons_zero]
              refine wpAnyH_take (i := 6) (v := ?_) rfl (by kernel_rfl) (by kernel_rfl) (by kernel_rfl) (fun _ _ _ h => h) (Or.inl ⟨by rfl, ?yldq⟩) (by assumption) ?_
              case yldq => (intro w hSw; (try dsimp only at hSw); go_simp; try with_reducible rfl)
              try simp only [Act.put, List.setIfInBounds_toArray, List.set_cons_zero, List.set_cons_succ, List.getElem_toArray, List.getElem_cons_succ, List.getElem_cons_zero]
              refine wpAnyH_take (i := 7) (v := ?_) rfl (by kernel_rfl) (by kernel_rfl) (by kernel_rfl) (fun _ _ _ h => h) (Or.inl ⟨by rfl, ?yldq⟩) (by assumption) ?_
              case yldq => (intro w hSw; (try dsimp only at hSw); go_simp; try with_reducible rfl)
              try simp only [Act.put, List.setIfInBounds_toArray, List.set_cons_zero, List.set_cons_succ, List.getElem_toArray, List.getElem_cons_succ, List.getElem_cons_zero]
              refine wpAnyH_take (i := 8) (v := ?_) rfl (by kernel_rfl) (by kernel_rfl) (by kernel_rfl) (fun _ _ _ h => h) (Or.inl ⟨by rfl, ?yldq⟩) (by assumption) ?_
              case yldq => (intro w hSw; (try dsimp only at hSw); go_simp; try with_reducible rfl)
              try simp only [Act.put, List.setIfInBounds_toArray, List.set_cons_zero, List.set_cons_succ, List.getElem_toArray, List.getElem_cons_succ, List.getElem_cons_zero]
              refine wpAnyH_ready (rs := [0]) (by kernel_rfl) (by simp) ?_
              refine AllReadyH.cons rfl (fun K hK => ?_) AllReadyH.nil
              go_simp
              refine hK.out _ _ trivial (fun _ => ?_)
              clear hK K
              refine wpAnyH_ready (rs := [4]) (by kernel_rfl) (by simp) ?_
              refine AllReadyH.cons rfl (fun K hK => ?_) AllReadyH.nil
              rw [if_pos (by rfl)]
              refine wp_append_own _ _ _ 22 rfl w7.heap.size 3 i0 (.int .i64 0) 1 8 Try.underlying22 hi hz0 hz1 hz2 rfl (by decide) (.slice (some ⟨w7.heap.size, 0, none⟩) 0 0) 0 [] rfl HO0.out ⟨g, 0, none⟩ q (q + 1) ((H.take q).map (Value.int .i64)) rfl (by rw [List.length_map, List.length_take, Nat.mul_one]; have := HM.out; omega) HSRC1.out ints_one (by unfold maxLen; omega) (by omega) (by simp) ?_
              intro v8 w8 hown8 hgr8 _
              have hown8 : w8.ownsRow w7.heap.size 3 1 v8 q ((H.take q).map (Value.int .i64)) := by simpa using hown8
              have hc78 : Chg no w7 w8 := (Chg.alloc no w7 _).thenGrown hgr8 (fun k hk => by injection hk with hk; have hk : w7.heap.size = k := hk; exact .inr (by omega))
              have hsrc2 : ∀ j u, ((H.drop (q + 1)).map (Value.int .i64))[j]? = some u → w8.cell? ((⟨g, 0, none⟩ : Addr).add j) = some u := by
                intro j u hu
                have e : H.drop (q + 1) = [] := List.drop_of_length_le (by rw [← HM.out]; omega)
                rw [e] at hu; simp at hu
              have HO8 := Lib.hid hown8; have HC8 := Lib.hid hc78; have HSRC2 := Lib.hid hsrc2
              clear hown8 hgr8 hc78 hsrc2
              refine hK.out _ _ trivial (fun _ => ?_)
              clear hK K
              refine wpAnyH_ready (rs := [9]) (by kernel_rfl) (by simp) ?_
              refine AllReadyH.cons rfl (fun K hK => ?_) AllReadyH.nil
              rw [if_pos (by rfl)]
              refine wp_append_own _ _ _ 22 rfl w7.heap.size 3 i0 (.int .i64 0) 1 8 Try.underlying22 hi hz0 hz1 hz2 rfl (by decide) v8 q ((H.take q).map (Value.int .i64)) rfl HO8.out ⟨g, 0, none⟩ 0 0 ((H.drop (q + 1)).map (Value.int .i64)) rfl (by rw [List.length_map, List.length_drop, Nat.mul_one]; have := HM.out; omega) HSRC2.out ints_one (by unfold maxLen; omega) (by omega) HC8.out.size ?_
              intro v9 w9 hown9 hgr9 _
              obtain ⟨m9, hm9⟩ : ∃ z, z = q + 0 := ⟨_, rfl⟩
              rw [← hm9] at hown9
              obtain ⟨A9, c9, rfl⟩ := own_slice hown9
              have hc79 : Chg no w7 w9 := HC8.out.thenGrown hgr9 (fun k hk => .inr (own_from HO8.out k hk))
              have hlen9 : (H.take q ++ H.drop (q + 1)).length = m9 := by rw [List.length_append, List.length_take, List.length_drop, hm9]; have := HM.out; omega
              have hv9 : Hav w w9 sp n F4 (f :: L) (without f T) (H.take q ++ H.drop (q + 1)) (.slice A9 m9 c9) := by
                have h7 := HV7.out
                have hlt7 := h7.stk.lt
                refine h7.put (Fr := no) hc79 (fun _ _ h => h) (fun _ h => h.elim) ?_ (fun i e hi => ?_)
                · rw [hlen9, List.map_append]; exact own_base hown9 hw07
                · have := own_from hown9 i e
                  have := hlt7 i hi
                  omega
              have hnt : (without f T).length = m9 := HP2.out.length_eq.trans hlen9
              have hsum : ((L.length + 1 : Nat) : Int) + (m9 : Int) = (n : Int) := by have := hv9.len; rw [hnt, List.length_cons] at this; omega
              have cf := free_at sp n (L.length + 1) w9 hv9.stk rfl
              obtain ⟨nl, hnl⟩ : ∃ z, z = L.length + 1 := ⟨_, rfl⟩
              rw [← hnl] at hsum cf
              have HV9 := Lib.hid hv9; have CF := Lib.hid cf; have HNT := Lib.hid hnt
              clear hown9 hgr9 hc79 hlen9 hv9 cf hnt hnl hm9 HV7 HO8 HC8 HO0 HCE HSRC1 HSRC2
              refine hK.out _ _ trivial (fun _ => ?_)
              clear hK K
              refine wpAnyH_take (i := 10) (v := ?_) rfl (by kernel_rfl) (by kernel_rfl) (by kernel_rfl) (fun _ _ _ h => h) (Or.inl ⟨by rfl, ?yldq⟩) (by assumption) ?_
              case yldq => (intro w hSw; (try dsimp only at hSw); go_simp; try with_reducible rfl)
              try simp only [Act.put, List.setIfInBounds_toArray, List.set_cons_zero, List.set_cons_succ, List.getElem_toArray, List.getElem_cons_succ, List.getElem_cons_zero]
              refine wpAnyH_done (by kernel_rfl) ?_ _
              clear hHeld
              go_wp2_with fail
              refine CF.out.mono ?_
              rintro e w10 ⟨rfl, j, rfl⟩
              have HV10 := Lib.hid (HV9.out.any (Chg.drewN no w9 j))
              clear CF HV9
              have cu := used_at sp n m9 _ HV10.out.stk HNT.out
              have CU := Lib.hid cu
              clear cu
              go_wp2_with fail
              refine CU.out.mono ?_
              rintro e w11 ⟨rfl, rfl⟩
              go_wp2_with fail
              refine CU.out.mono ?_
              rintro e w11 ⟨rfl, rfl⟩
              clear CU
              go_wp2
              go_roundw
              case rel => exact ⟨k + 1, F4, f :: L, without f T, _, hlt, by omega, by go_num, HV10.out, HP2.out⟩
              case measure => simp [intOf]; omega
            · have hqc : q + 1 < c7 := by omega
              have hqc7 : q ≤ c7 := by omega
              have hq1m : q + 1 ≤ m := by omega
              have hq1i : (q : Int) + 1 ≤ (m : Int) := by omega
              have hq0i : 0 ≤ (q : Int) + 1 := by omega
              have hwr : IntKind.i64.wrap ((q : Int) + 1) = (q : Int) + 1 := by simp [IntKind.wrap, IntKind.bits, IntKind.signed]; omega
              have htn : ((q : Int) + 1).toNat = q + 1 := by omega
              refine wp_region_held_drew (S := fun W => True) (by kernel_rfl) trivial (fun hHeld => ?_)
              rw [← hw7]
              clear hw7
              simp only [List.size_toArray, List.length_cons, List.length_nil, Nat.reduceAdd]
              rw [show Array.replicate 11 false = [false, false, false, false, false, false, false, false, false, false, false].toArray from rfl]
              refine wpAnyH_take (i := 1) (v := ?_) rfl (by kernel_rfl) (by kernel_rfl) (by kernel_rfl) (fun _ _ _ h => h) (Or.inl ⟨by rfl, ?yldq⟩) (by assumption) ?_
              case yldq => (intro w hSw; (try dsimp only at hSw); go_simp; try with_reducible rfl)
              try simp only [Act.put, List.setIfInBounds_toArray, List.set_cons_zero, List.set_cons_succ, List.getElem_toArray, List.getElem_cons_succ, List.getElem_cons_zero]
              refine wpAnyH_take (i := 2) (v := ?_) rfl (by kernel_rfl) (by kernel_rfl) (by kernel_rfl) (fun _ _ _ h => h) (Or.inl ⟨by rfl, ?yldq⟩) (by assumption) ?_
              case yldq => (intro w hSw; (try dsimp only at hSw); go_simp; try with_reducible rfl)
              try simp only [Act.put, List.setIfInBounds_toArray, List.set_cons_zero, List.set_cons_succ, List.getElem_toArray, List.getElem_cons_succ, List.getElem_cons_zero]
              refine wpAnyH_take (i := 3) (v := ?_) rfl (by kernel_rfl) (by kernel_rfl) (by kernel_rfl) (fun _ _ _ h => h) (Or.inl ⟨by rfl, ?yldq⟩) (by assumption) ?_
              case yldq => (intro w hSw; (try dsimp only at hSw); go_simp; try with_reducible rfl)
              try simp only [Act.put, List.setIfInBounds_toArray, List.set_cons_zero, List.set_cons_succ, List.getElem_toArray, List.getElem_cons_succ, List.getElem_cons_zero]
              refine wpAnyH_take (i := 5) (v := ?_) rfl (by kernel_rfl) (by kernel_rfl) (by kernel_rfl) (fun _ _ _ h => h) (Or.inl ⟨by rfl, ?yldq⟩) (by assumption) ?_
              case yldq => (intro w hSw; (try dsimp only at hSw); go_simp; try with_reducible rfl)
              try simp only [Act.put, List.setIfInBounds_toArray, List.set_cons_zero, List.set_cons_succ, List.getElem_toArray, List.getElem_cons_succ, List.getElem_cons_zero]
              refine wpAnyH_take (i := 6) (v := ?_) rfl (by kernel_rfl) (by kernel_rfl) (by kernel_rfl) (fun _ _ _ h => h) (Or.inl ⟨by rfl, ?yldq⟩) (by assumption) ?_
              case yldq => (intro w hSw; (try dsimp only at hSw); go_simp; try with_reducible rfl)
              try simp only [Act.put, List.setIfInBounds_toArray, List.set_cons_zero, List.set_cons_succ, List.getElem_toArray, List.getElem_cons_succ, List.getElem_cons_zero]
              refine wpAnyH_take (i := 7) (v := ?_) rfl (by kernel_rfl) (by kernel_rfl) (by kernel_rfl) (fun _ _ _ h => h) (Or.inl ⟨by rfl, ?yldq⟩) (by assumption) ?_
              case yldq => (intro w hSw; (try dsimp only at hSw); go_simp; try with_reducible rfl)
              try simp only [Act.put, List.setIfInBounds_toArray, List.set_cons_zero, List.set_cons_succ, List.getElem_toArray, List.getElem_cons_succ, List.getElem_cons_zero]
              refine wpAnyH_take (i := 8) (v := ?_) rfl (by kernel_rfl) (by kernel_rfl) (by kernel_rfl) (fun _ _ _ h => h) (Or.inl ⟨by rfl, ?yldq⟩) (by assumption) ?_
              case yldq => (intro w hSw; (try dsimp only at hSw); go_simp; try with_reducible rfl)
              try simp only [Act.put, List.setIfInBounds_toArray, List.set_cons_zero, List.set_cons_succ, List.getElem_toArray, List.getElem_cons_succ, List.getElem_cons_zero]
              refine wpAnyH_ready (rs := [0]) (by kernel_rfl) (by simp) ?_
              refine AllReadyH.cons rfl (fun K hK => ?_) AllReadyH.nil
              go_simp
              refine hK.out _ _ trivial (fun _ => ?_)
              clear hK K
              refine wpAnyH_ready (rs := [4]) (by kernel_rfl) (by simp) ?_
              refine AllReadyH.cons rfl (fun K hK => ?_) AllReadyH.nil
              rw [if_pos (by rfl)]
              refine wp_append_own _ _ _ 22 rfl w7.heap.size 3 i0 (.int .i64 0) 1 8 Try.underlying22 hi hz0 hz1 hz2 rfl (by decide) (.slice (some ⟨w7.heap.size, 0, none⟩) 0 0) 0 [] rfl HO0.out ⟨g, 0, none⟩ q c7 ((H.take q).map (Value.int .i64)) rfl (by rw [List.length_map, List.length_take, Nat.mul_one]; have := HM.out; omega) HSRC1.out ints_one (by unfold maxLen; omega) (by omega) (by simp) ?_
              intro v8 w8 hown8 hgr8 _
              have hown8 : w8.ownsRow w7.heap.size 3 1 v8 q ((H.take q).map (Value.int .i64)) := by simpa using hown8
              have hc78 : Chg no w7 w8 := (Chg.alloc no w7 _).thenGrown hgr8 (fun k hk => by injection hk with hk; have hk : w7.heap.size = k := hk; exact .inr (by omega))
              have hsrc2 : ∀ j u, ((H.drop (q + 1)).map (Value.int .i64))[j]? = some u → w8.cell? ((⟨g, q + 1, none⟩ : Addr).add j) = some u := by
                intro j u hu
                rcases Nat.lt_or_ge j (m - (q + 1)) with hjq | hjq
                · have hjl : q + 1 + j < H.length := by rw [← HM.out]; omega
                  rw [List.getElem?_map, List.getElem?_drop, List.getElem?_eq_getElem hjl] at hu
                  have h1 := World.cell?_of_block (w := w7) (w' := w8) (a := ⟨g, q + 1 + j, none⟩) (hc78.block g hgl7 (fun h => h))
                  rw [Go.WideShapes.add_plain, h1, HCE.out (q + 1 + j) (by omega), List.getD_eq_getElem?_getD, List.getElem?_eq_getElem hjl]
                  exact hu
                · rw [List.getElem?_eq_none (by rw [List.length_map, List.length_drop]; have := HM.out; omega)] at hu; cases hu
              have HO8 := Lib.hid hown8; have HC8 := Lib.hid hc78; have HSRC2 := Lib.hid hsrc2
              clear hown8 hgr8 hc78 hsrc2
              refine hK.out _ _ trivial (fun _ => ?_)
              clear hK K
              refine wpAnyH_ready (rs := [9]) (by kernel_rfl) (by simp) ?_
              refine AllReadyH.cons rfl (fun K hK => ?_) AllReadyH.nil
              rw [if_pos (by rfl)]
              refine wp_append_own _ _ _ 22 rfl w7.heap.size 3 i0 (.int .i64 0) 1 8 Try.underlying22 hi hz0 hz1 hz2 rfl (by decide) v8 q ((H.take q).map (Value.int .i64)) rfl HO8.out ⟨g, q + 1, none⟩ (m - (q + 1)) (c7 - (q + 1)) ((H.drop (q + 1)).map (Value.int .i64)) rfl (by rw [List.length_map, List.length_drop, Nat.mul_one]; have := HM.out; omega) HSRC2.out ints_one (by unfold maxLen; omega) (by omega) HC8.out.size ?_
              intro v9 w9 hown9 hgr9 _
              obtain ⟨m9, hm9⟩ : ∃ z, z = q + (m - (q + 1)) := ⟨_, rfl⟩
              rw [← hm9] at hown9
              obtain ⟨A9, c9, rfl⟩ := own_slice hown9
              have hc79 : Chg no w7 w9 := HC8.out.thenGrown hgr9 (fun k hk => .inr (own_from HO8.out k hk))
              have hlen9 : (H.take q ++ H.drop (q + 1)).length = m9 := by rw [List.length_append, List.length_take, List.length_drop, hm9]; have := HM.out; omega
              have hv9 : Hav w w9 sp n F4 (f :: L) (without f T) (H.take q ++ H.drop (q + 1)) (.slice A9 m9 c9) := by
                have h7 := HV7.out
                have hlt7 := h7.stk.lt
                refine h7.put (Fr := no) hc79 (fun _ _ h => h) (fun _ h => h.elim) ?_ (fun i e hi => ?_)
                · rw [hlen9, List.map_append]; exact own_base hown9 hw07
                · have := own_from hown9 i e
                  have := hlt7 i hi
                  omega
              have hnt : (without f T).length = m9 := HP2.out.length_eq.trans hlen9
              have hsum : ((L.length + 1 : Nat) : Int) + (m9 : Int) = (n : Int) := by have := hv9.len; rw [hnt, List.length_cons] at this; omega
              have cf := free_at sp n (L.length + 1) w9 hv9.stk rfl
              obtain ⟨nl, hnl⟩ : ∃ z, z = L.length + 1 := ⟨_, rfl⟩
              rw [← hnl] at hsum cf
              have HV9 := Lib.hid hv9; have CF := Lib.hid cf; have HNT := Lib.hid hnt
              clear hown9 hgr9 hc79 hlen9 hv9 cf hnt hnl hm9 HV7 HO8 HC8 HO0 HCE HSRC1 HSRC2
              refine hK.out _ _ trivial (fun _ => ?_)
              clear hK K
              refine wpAnyH_take (i := 10) (v := ?_) rfl (by kernel_rfl) (by kernel_rfl) (by kernel_rfl) (fun _ _ _ h => h) (Or.inl ⟨by rfl, ?yldq⟩) (by assumption) ?_
              case yldq => (intro w hSw; (try dsimp only at hSw); go_simp; try with_reducible rfl)
              try simp only [Act.put, List.setIfInBounds_toArray, List.set_cons_zero, List.set_cons_succ, List.getElem_toArray, List.getElem_cons_succ, List.getElem_cons_zero]
              refine wpAnyH_done (by kernel_rfl) ?_ _
              clear hHeld
              go_wp2_with fail
              refine CF.out.mono ?_
              rintro e w10 ⟨rfl, j, rfl⟩
              have HV10 := Lib.hid (HV9.out.any (Chg.drewN no w9 j))
              clear CF HV9
              have cu := used_at sp n m9 _ HV10.out.stk HNT.out
              have CU := Lib.hid cu
              clear cu
              go_wp2_with fail
              refine CU.out.mono ?_
              rintro e w11 ⟨rfl, rfl⟩
              go_wp2_with fail
              refine CU.out.mono ?_
              rintro e w11 ⟨rfl, rfl⟩
              clear CU
              go_wp2
              go_roundw
              case rel => exact ⟨k + 1, F4, f :: L, without f T, _, hlt, by omega, by go_num, HV10.out, HP2.out⟩
              case measure => simp [intOf]; omega
    · have hfin := Lib.hid hchg.none
      clear hchg
      go_wp2
      go_ret
      exact ⟨rfl, hfin.out⟩
end Go.Proofs.Ytbfnbiadmmpaaaa
