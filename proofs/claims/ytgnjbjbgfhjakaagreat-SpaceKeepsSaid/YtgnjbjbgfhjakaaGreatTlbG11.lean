/-
  What tlb.List and tlb.Len answer: contracts over the translation. Each says its own conditions.
-/
import Derived.Test.YtgnjbjbgfhjakaaGreatTlbC11
import Derived.Deep.AppendLies
import Derived.Laws.AppendOwnNone
namespace Go.Proofs.YtgnjbjbgfhjakaaGreat
open Go.RowKit
set_option linter.unusedVariables false
set_option linter.unusedSimpArgs false
attribute [local go_sem] setCell_drewN alloc_drewN

/-- a slot of the list: where an entry stands, and it -/
def sloC (i j : Nat) (y : Wy) : List Value := [.int .i64 (i : Int), .int .i64 (j : Int), .int .i64 y.asid, .int .u64 (y.page : Int), .bool y.l.e.v, .bool y.l.e.r, .bool y.l.e.w, .bool y.l.e.x, .bool y.l.e.u, .bool y.l.e.g, .bool y.l.e.a, .bool y.l.e.d, .int .i64 y.l.e.rsw, .int .u64 (y.l.e.ppn : Int), .int .i64 (y.l.lv : Int), .int .u64 (y.l.pl : Int)]
def lstC1 (f : Nat → Wy) (i : Nat) : Nat → List Value
  | 0 => []
  | j + 1 => lstC1 f i j ++ (if (f j).full then sloC i j (f j) else [])
def lstC (R : Nat → Nat → Wy) (m : Nat) : Nat → List Value
  | 0 => []
  | k + 1 => lstC R m k ++ lstC1 (R k) k m
theorem infoSl : (Tryz.prog.info? 120).map (fun i => (i.zero, i.size, i.bytes)) = some (some (.agg #[.int .i64 0, .int .i64 0, .int .i64 0, .int .u64 0, .bool false, .bool false, .bool false, .bool false, .bool false, .bool false, .bool false, .bool false, .int .i64 0, .int .u64 0, .int .i64 0, .int .u64 0]), 16, 72) := by kernel_rfl
theorem own_from11 {w : World} {B e s n : Nat} {v : Value} {xs : List Value} (h : w.ownsRow B e s v n xs) (k : Nat) (hk : v.ownBlock = some k) : B ≤ k := (h.lt k hk).1
theorem slo_one {i j xa rsw : Int} {xp ppn lv pl : Nat} {v r x1 x u g9 a9 d : Bool} : ∀ z ∈ [Value.int .i64 i, .int .i64 j, .int .i64 xa, .int .u64 (xp : Int), .bool v, .bool r, .bool x1, .bool x, .bool u, .bool g9, .bool a9, .bool d, .int .i64 rsw, .int .u64 (ppn : Int), .int .i64 (lv : Int), .int .u64 (pl : Int)], z.oneCell' = true := by
  intro z hz
  simp only [List.mem_cons, List.not_mem_nil, or_false] at hz
  rcases hz with rfl | rfl | rfl | rfl | rfl | rfl | rfl | rfl | rfl | rfl | rfl | rfl | rfl | rfl | rfl | rfl <;> rfl
set_option maxHeartbeats 8000000 in
set_option maxRecDepth 100000 in
theorem list_any (b sp : Nat) (g : Nat → Nat) (n m : Nat) (R : Nat → Nat → Wy) (w : World) (h : Buf w b sp g n m R) :
    Calls Tryz.prog 50 #[.pointer (some ⟨b, 0, none⟩)] w fun r w' => ∃ v, r = .returned v ∧ w'.ownsRow w.heap.size 120 16 v (cnt2 (fun i j => (R i j).full) m n) (lstC R m n) ∧ Below w.heap.size w w' := by
  obtain ⟨i0, hi, hz0, hz1, hz2⟩ := info_parts infoSl
  have h1 := none_at h
  have n1 := h.n1
  have m1 := h.m1
  have c0 : w.cell? ⟨b, 0, none⟩ = some (.slice (some ⟨sp, 0, none⟩) n n) := h.blk.cell 0
  obtain ⟨P, hP⟩ : ∃ P : Nat → Nat → Bool, P = fun i j => (R i j).full := ⟨_, rfl⟩
  have hP2 : ∀ i j, P i j = (R i j).full := fun i j => by rw [hP]
  rw [← hP]
  clear hP
  have H := Lib.hid h; have H1 := Lib.hid h1; have HP := Lib.hid hP2
  clear h h1 hP2
  go_enter Tryz.func50, Tryz.ntmps50
  go_wp2_with fail
  refine (H1.out).mono ?_
  rintro e wx ⟨rfl, rfl⟩
  go_wp2
  clear c0
  go_loopw [3, 15] (fun s i wr => ∃ (k : Nat) (y : Value), k ≤ n ∧ i = .int .i64 k ∧ y = s ∧ wr.ownsRow w.heap.size 120 16 y (cnt2 P m k) (lstC R m k) ∧ Below w.heap.size w wr) (fun _ i _ => n - (intOf i).toNat)
  case atStart => exact ⟨0, _, Nat.zero_le _, rfl, rfl, World.ownsRow_nil _ _ _ _, Below.refl _ _⟩
  case round =>
    obtain ⟨k, y, hk, rfl, rfl, ho, hb⟩ := hrel
    by_cases hlt : k < n
    · have hki : (k : Int) < (n : Int) := by omega
      have cs := (H.out.below hb).set_at hlt
      have HO := Lib.hid ho; have HB := Lib.hid hb; clear ho hb
      go_wp2
      clear cs
      go_loopw [3, 22] (fun s i wr => ∃ (j : Nat) (y : Value), j ≤ m ∧ i = .int .i64 j ∧ y = s ∧ wr.ownsRow w.heap.size 120 16 y (cnt2 P m k + cnt1 (P k) j) (lstC R m k ++ lstC1 (R k) k j) ∧ Below w.heap.size w wr) (fun _ i _ => m - (intOf i).toNat)
      case atStart => exact ⟨0, _, Nat.zero_le _, rfl, rfl, (by rw [lstC1, List.append_nil]; exact HO.out), HB.out⟩
      case round =>
        obtain ⟨j, y, hj, rfl, rfl, ho, hb⟩ := hrel
        by_cases hlt2 : j < m
        · have hji : (j : Int) < (m : Int) := by omega
          have hw := ((H.out.below hb).row k hlt).wy hlt2
          have hpe := HP.out k j
          obtain ⟨C, hC⟩ : ∃ C, C = cnt2 P m k + cnt1 (P k) j := ⟨_, rfl⟩
          have hC2 : C ≤ 512 := by
            have q1 := cnt2_le P m k
            have q2 := cnt1_le (P k) j
            have q3 : k * m ≤ 63 * 8 := Nat.mul_le_mul (by omega) m1
            omega
          obtain ⟨LL, hLL⟩ : ∃ L, L = lstC R m k ++ lstC1 (R k) k j := ⟨_, rfl⟩
          have hl1 : lstC R m k ++ lstC1 (R k) k (j + 1) = LL ++ (if (R k j).full then sloC k j (R k j) else []) := by rw [lstC1, ← List.append_assoc, hLL]
          rw [← hC, ← hLL] at ho
          have s0 : P k j = false → cnt2 P m k + cnt1 (P k) (j + 1) = C := fun hp => by rw [cnt1, hp, hC]; simp
          have s1 : P k j = true → cnt2 P m k + cnt1 (P k) (j + 1) = C + 1 := fun hp => by rw [cnt1, hp, hC, if_pos rfl]; omega
          obtain ⟨Y, hY⟩ : ∃ Y, Y = R k j := ⟨_, rfl⟩
          rw [← hY] at hw hpe hl1
          clear hY hLL hC
          obtain ⟨xf, xa, xp, ⟨⟨v, r, x1, x, u, g9, a9, d, rsw, ppn⟩, lv, pl⟩⟩ := Y
          have cw0 : wr.cell? ⟨g k, j * 15, none⟩ = some _ := hw 0 _ rfl
          have cw1 : wr.cell? ⟨g k, j * 15 + 1, none⟩ = some _ := hw 1 _ rfl
          have cw2 : wr.cell? ⟨g k, j * 15 + 2, none⟩ = some _ := hw 2 _ rfl
          have cw3 : wr.cell? ⟨g k, j * 15 + 3, none⟩ = some _ := hw 3 _ rfl
          have cw4 : wr.cell? ⟨g k, j * 15 + 4, none⟩ = some _ := hw 4 _ rfl
          have cw5 : wr.cell? ⟨g k, j * 15 + 5, none⟩ = some _ := hw 5 _ rfl
          have cw6 : wr.cell? ⟨g k, j * 15 + 6, none⟩ = some _ := hw 6 _ rfl
          have cw7 : wr.cell? ⟨g k, j * 15 + 7, none⟩ = some _ := hw 7 _ rfl
          have cw8 : wr.cell? ⟨g k, j * 15 + 8, none⟩ = some _ := hw 8 _ rfl
          have cw9 : wr.cell? ⟨g k, j * 15 + 9, none⟩ = some _ := hw 9 _ rfl
          have cw10 : wr.cell? ⟨g k, j * 15 + 10, none⟩ = some _ := hw 10 _ rfl
          have cw11 : wr.cell? ⟨g k, j * 15 + 11, none⟩ = some _ := hw 11 _ rfl
          have cw12 : wr.cell? ⟨g k, j * 15 + 12, none⟩ = some _ := hw 12 _ rfl
          have cw13 : wr.cell? ⟨g k, j * 15 + 13, none⟩ = some _ := hw 13 _ rfl
          have cw14 : wr.cell? ⟨g k, j * 15 + 14, none⟩ = some _ := hw 14 _ rfl
          have hws := hb.size
          have HO2 := Lib.hid ho; have HB2 := Lib.hid hb; have HPE := Lib.hid hpe; have S0 := Lib.hid s0; have S1 := Lib.hid s1; have HL1 := Lib.hid hl1
          clear ho hb hw hpe s0 s1 hl1
          cases xf
          · go_wp2
            clear cw0 cw1 cw2 cw3 cw4 cw5 cw6 cw7 cw8 cw9 cw10 cw11 cw12 cw13 cw14
            go_roundw
            case rel => exact ⟨j + 1, y, hlt2, by go_num, rfl, (by rw [S0.out HPE.out, HL1.out, if_neg (by simp), List.append_nil]; exact HO2.out.alloc _), HB2.out.alloc HB2.out.size _⟩
            case measure => simp [intOf]; omega
          · go_wp2_with (at_builtin; refine wpList_append_own _ rfl (.tmp 29) (.tmp 39) 55 rfl w.heap.size 120 i0 (.agg #[.int .i64 0, .int .i64 0, .int .i64 0, .int .u64 0, .bool false, .bool false, .bool false, .bool false, .bool false, .bool false, .bool false, .bool false, .int .i64 0, .int .u64 0, .int .i64 0, .int .u64 0]) 16 72 Tryz.underlying55 hi hz0 hz1 hz2 rfl (by decide) y C _ rfl ((HO2.out.alloc _).alloc _) ⟨wr.heap.size + 1, 0, none⟩ 1 1 [.int .i64 (k : Int), .int .i64 (j : Int), .int .i64 xa, .int .u64 (xp : Int), .bool v, .bool r, .bool x1, .bool x, .bool u, .bool g9, .bool a9, .bool d, .int .i64 rsw, .int .u64 (ppn : Int), .int .i64 (lv : Int), .int .u64 (pl : Int)] rfl rfl ?c1 slo_one ?c3 ?c4 ?c5 ?_)
            case c3 => unfold maxLen; omega
            case c4 => omega
            case c5 => first | omega | (simp; omega)
            intro v2 w2 hown2 hgr2 _
            clear cw0 cw1 cw2 cw3 cw4 cw5 cw6 cw7 cw8 cw9 cw10 cw11 cw12 cw13 cw14
            have hc2 : Below w.heap.size w w2 := ((Chg.of_below (F := no) ((HB2.out.alloc HB2.out.size _).alloc (by simp; omega) _)).thenGrown hgr2 (fun j hj => .inr (own_from11 HO2.out j hj))).none
            have HO3 := Lib.hid hown2; have HB3 := Lib.hid hc2
            clear hown2 hgr2 hc2
            go_wp2
            go_roundw
            case rel => exact ⟨j + 1, v2, hlt2, by go_num, rfl, (by rw [S1.out HPE.out, HL1.out, if_pos (by trivial)]; exact HO3.out), HB3.out⟩
            case measure => simp [intOf]; omega
        · obtain rfl : j = m := by omega
          have HO2 := Lib.hid ho; have HB2 := Lib.hid hb; clear ho hb
          go_wp2
          go_roundw
          case rel => exact ⟨k + 1, y, hlt, by go_num, rfl, HO2.out, HB2.out⟩
          case measure => simp [intOf]; omega
    · obtain rfl : k = n := by omega
      have HO := Lib.hid ho; have HB := Lib.hid hb; clear ho hb
      go_wp2
      go_ret
      exact ⟨y, rfl, HO.out, HB.out⟩
end Go.Proofs.YtgnjbjbgfhjakaaGreat
