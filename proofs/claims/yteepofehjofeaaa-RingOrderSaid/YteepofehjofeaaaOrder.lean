/-
  What RingOrder answers: the walk over the contracts.
-/
import Derived.Test.YteepofehjofeaaaRingES
import Derived.Test.YteepofehjofeaaaIn05
import Derived.Deep.AppendLies
import Derived.Deep.LoopGhost
namespace Go.Proofs.Yteepofehjofeaaa
open Go.RowKit
set_option linter.unusedVariables false
set_option linter.unusedSimpArgs false

/-- texts that came in -/
def RdT (w : World) (A : Option Addr) (Y : Nat) (l : List ByteArray) : Prop := l = [] ∨ ∃ off, A = some ⟨Y, off, none⟩ ∧ Y < w.heap.size ∧ ∀ i (h : i < l.length), w.cell? ⟨Y, off + i, none⟩ = some (.string l[i])
theorem own_chg {F : Nat → Prop} {w w' : World} {B e n : Nat} {v : Value} {xs : List Value} (h : w.ownsRow B e 1 v n xs) (hc : Chg F w w') (hf : ∀ k, v.ownBlock = some k → ¬ F k) : w'.ownsRow B e 1 v n xs := by
  have hl := h.lt
  refine ⟨h.1, ?_⟩
  rcases h.2 with h0 | ⟨g, cap, cur, rfl, hB, hg, h1, h2, h3, h4⟩
  · exact .inl h0
  · exact .inr ⟨g, cap, cur, rfl, hB, (hc.block g (hl g rfl).2 (hf g rfl)).trans hg, h1, h2, h3, h4⟩
theorem own_form {w : World} {B e n : Nat} {v : Value} {xs : List Value} (h : w.ownsRow B e 1 v n xs) : ∃ A c, v = .slice A n c := by
  rcases h.2 with ⟨rfl, rfl⟩ | ⟨g, cap, cur, rfl, _⟩
  · exact ⟨_, _, rfl⟩
  · exact ⟨_, _, rfl⟩
/-- a ring of texts, and two rows of the call's own, all apart -/
structure Ord (B : Nat) (w wr : World) (R G rm : Nat) (vi vo : Value) (ins outs q : List ByteArray) : Prop where
  ring : RngS wr R G rm q
  i : wr.ownsRow B 9 1 vi ins.length (ins.map Value.string)
  o : wr.ownsRow B 9 1 vo outs.length (outs.map Value.string)
  si : ∀ k, vi.ownBlock = some k → k ≠ R ∧ k ≠ G
  so : ∀ k, vo.ownBlock = some k → k ≠ R ∧ k ≠ G
  io : ∀ k, vi.ownBlock = some k → vo.ownBlock ≠ some k
  bR : B ≤ R
  bG : B ≤ G
  bel : Below B w wr
  le : B ≤ wr.heap.size
section
variable {B : Nat} {w w1 w2 : World} {R G G' rm : Nat} {vi vo : Value} {ins outs q q' : List ByteArray}
theorem Ord.rung (h : Ord B w w1 R G rm vi vo ins outs q) (hc : Chg (two R G) w1 w2) (hr : RngS w2 R G' rm q') (hG : G' = G ∨ w1.heap.size ≤ G') : Ord B w w2 R G' rm vi vo ins outs q' := by
  have li := h.i.lt
  have lo := h.o.lt
  have hl := h.le
  have hbG := h.bG
  refine ⟨hr, own_chg h.i hc (fun k hk => ?_), own_chg h.o hc (fun k hk => ?_), fun k hk => ?_, fun k hk => ?_, h.io, h.bR, by omega, h.bel.trans (two_below hc h.le h.bR h.bG), Nat.le_trans h.le hc.size⟩
  · have := h.si k hk; unfold two; omega
  · have := h.so k hk; unfold two; omega
  · have := h.si k hk; have := li k hk; omega
  · have := h.so k hk; have := lo k hk; omega
theorem Ord.alloc (h : Ord B w w1 R G rm vi vo ins outs q) (o : Obj) : Ord B w (w1.alloc o) R G rm vi vo ins outs q :=
  ⟨h.ring.chg (Chg.alloc no _ _) (fun h => h) (fun h => h), h.i.alloc _, h.o.alloc _, h.si, h.so, h.io, h.bR, h.bG, h.bel.alloc h.le _, by simp; have := h.le; omega⟩
theorem Ord.appI {g cap : Nat} {s : ByteArray} (h : Ord B w w1 R G rm vi vo ins outs q) (hown : w2.ownsRow B 9 1 (.slice (some ⟨g, 0, none⟩) (ins.length + 1) cap) (ins.length + 1) (ins.map Value.string ++ [.string s])) (hgr : w1.grownBy w2 vi.ownBlock) (hat : vi.ownBlock = some g ∨ g = w1.heap.size) :
    Ord B w w2 R G rm (.slice (some ⟨g, 0, none⟩) (ins.length + 1) cap) vo (ins ++ [s]) outs q := by
  have li := h.i.lt
  have lo := h.o.lt
  have lr := h.ring.lt
  have hle := h.le
  have hc : Chg (fun k => vi.ownBlock = some k) w1 w2 := Chg.grown hgr (fun k hk _ => hk)
  have hB : B ≤ g := hat.elim (fun h' => (li g h').1) (fun h' => by omega)
  refine ⟨h.ring.chg hc (fun e => (h.si R e).1 rfl) (fun e => (h.si G e).2 rfl), by rw [List.length_append, List.map_append]; exact hown, own_chg h.o hc (fun k hk e => h.io k e hk), fun k hk => ?_, h.so, fun k hk e => ?_, h.bR, h.bG, h.bel.trans (hc.below h.le (fun k hk e => by have := li k e; omega)), Nat.le_trans h.le hc.size⟩
  · injection hk with hk; subst hk
    rcases hat with h' | h'
    · exact h.si g h'
    · show g ≠ R ∧ g ≠ G
      omega
  · injection hk with hk; subst hk
    rcases hat with h' | h'
    · exact h.io g h' e
    · have := lo g e; omega
theorem Ord.appO {g cap : Nat} {s : ByteArray} (h : Ord B w w1 R G rm vi vo ins outs q) (hown : w2.ownsRow B 9 1 (.slice (some ⟨g, 0, none⟩) (outs.length + 1) cap) (outs.length + 1) (outs.map Value.string ++ [.string s])) (hgr : w1.grownBy w2 vo.ownBlock) (hat : vo.ownBlock = some g ∨ g = w1.heap.size) :
    Ord B w w2 R G rm vi (.slice (some ⟨g, 0, none⟩) (outs.length + 1) cap) ins (outs ++ [s]) q := by
  have li := h.i.lt
  have lo := h.o.lt
  have lr := h.ring.lt
  have hle := h.le
  have hc : Chg (fun k => vo.ownBlock = some k) w1 w2 := Chg.grown hgr (fun k hk _ => hk)
  have hB : B ≤ g := hat.elim (fun h' => (lo g h').1) (fun h' => by omega)
  refine ⟨h.ring.chg hc (fun e => (h.so R e).1 rfl) (fun e => (h.so G e).2 rfl), own_chg h.i hc (fun k hk e => h.io k hk e), by rw [List.length_append, List.map_append]; exact hown, h.si, fun k hk => ?_, fun k hk e => ?_, h.bR, h.bG, h.bel.trans (hc.below h.le (fun k hk e => by have := lo k e; omega)), Nat.le_trans h.le hc.size⟩
  · injection hk with hk; subst hk
    rcases hat with h' | h'
    · exact h.so g h'
    · show g ≠ R ∧ g ≠ G
      omega
  · injection e with e; subst e
    rcases hat with h' | h'
    · exact h.io g hk h'
    · have := li g hk; omega
end
set_option maxRecDepth 100000 in
set_option maxHeartbeats 40000000 in
theorem order_walk (room : Nat) (A : Option Addr) (Y0 n cap : Nat) (l : List ByteArray) (w : World) (hr : RdT w A Y0 l) (hn : l.length = n) (hn63 : n ≤ 9223372036854775807) (hcap : n ≤ cap) (h8 : room ≤ 255) :
    Calls Try.prog 4 #[.int .u8 room, .slice A n cap] w fun e w' => e = .returned (.bool true) ∧ Below w.heap.size w w' := by
  obtain ⟨i0, hi, hz0, hz1, hz2⟩ := info_parts infoS
  have HR := Lib.hid hr; have HN := Lib.hid hn
  clear hr hn
  go_enter Try.func4, Try.ntmps4
  go_wp2_with fail
  refine (first_any _).mono ?_
  rintro e w1 ⟨rfl, hb1⟩
  have B1 := Lib.hid hb1; have hs1 := hb1.size; clear hb1
  go_wp2_with fail
  refine (enewS room _).mono ?_
  rintro e w2 ⟨rfl, hr2, hc2⟩
  rw [show (min (max (room : Int) 0) 65536).toNat = room from by omega] at hr2
  obtain ⟨R, hR⟩ : ∃ R, R = w1.heap.size := ⟨_, rfl⟩
  rw [← hR] at hr2 ⊢
  have ho : Ord w.heap.size w w2 R R room (.slice none 0 0) (.slice none 0 0) [] [] [] :=
    ⟨hr2, World.ownsRow_nil _ _ _ _, World.ownsRow_nil _ _ _ _, (fun k h => by cases h), (fun k h => by cases h), (fun k h => by cases h), by omega, by omega, B1.out.trans (no_below hc2 hs1), Nat.le_trans hs1 hc2.size⟩
  have HO := Lib.hid ho
  clear ho hr2 hc2 hR B1 hs1
  go_wp2
  go_loopw [6, 7, 22] (fun vi vo i wr => ∃ (k : Nat) (G : Nat) (ins outs q : List ByteArray), k ≤ n ∧ k ≤ 200 ∧ ins.length ≤ k ∧ ins = outs ++ q ∧ i = .int .i64 k ∧ Ord w.heap.size w wr R G room vi vo ins outs q) (fun _ _ i _ => n - (intOf i).toNat)
  case atStart => exact ⟨0, R, [], [], [], Nat.zero_le _, Nat.zero_le _, Nat.le_refl _, rfl, rfl, HO.out⟩
  case round =>
    obtain ⟨k, G, ins, outs, q, hk, hk2, hik, heq, rfl, hord⟩ := hrel
    have HORD := Lib.hid hord; have HEQ := Lib.hid heq
    have hbel := hord.bel
    have hlen : ins.length = outs.length + q.length := by rw [heq, List.length_append]
    obtain ⟨A6, c6, h6⟩ := own_form hord.i
    obtain ⟨A7, c7, h7⟩ := own_form hord.o
    obtain ⟨ni, hni⟩ : ∃ m, m = ins.length := ⟨_, rfl⟩
    obtain ⟨no, hno⟩ : ∃ m, m = outs.length := ⟨_, rfl⟩
    rw [← hni] at h6 hik
    rw [← hno] at h7
    have HNI := Lib.hid hni; have HNO := Lib.hid hno; have HLEN := Lib.hid hlen
    clear hord heq hni hno hlen
    subst h6 h7
    by_cases hlt : k < n
    · skip
      · have hkl : k < l.length := by rw [HN.out]; exact hlt
        obtain ⟨oa, hA, hY0, hca⟩ : ∃ off, A = some ⟨Y0, off, none⟩ ∧ Y0 < w.heap.size ∧ ∀ i (h : i < l.length), w.cell? ⟨Y0, off + i, none⟩ = some (.string l[i]) := by
          rcases HR.out with h | h
          · rw [h] at hkl; exact absurd hkl (Nat.not_lt_zero _)
          · exact h
        have hc := hca k hkl
        rw [← hbel.cell (p := ⟨Y0, oa + k, none⟩) hY0] at hc
        obtain ⟨s, hs⟩ : ∃ s, s = l[k] := ⟨_, rfl⟩
        rw [← hs] at hc
        subst hA
        clear hca hs hkl hbel
        by_cases h200 : 200 ≤ k
        · skip
          go_wp2
          try rw [show (decide (200 ≤ (k : Int))) = true from decide_eq_true (by omega)]
          go_loopg [7] q.length (fun g vo wr => ∃ (G : Nat) (outs q : List ByteArray), q.length = g ∧ ins = outs ++ q ∧ Ord w.heap.size w wr R G room (.slice A6 ni c6) vo ins outs q)
          case atStart => exact ⟨G, outs, q, rfl, HEQ.out, HORD.out⟩
          case round =>
            clear HORD HEQ HLEN HNO
            obtain ⟨G2, outs2, q2, hg2, heq2, ord2⟩ := hrel
            obtain ⟨A8, c8, h8'⟩ := own_form ord2.o
            obtain ⟨no2, hno2⟩ : ∃ m, m = outs2.length := ⟨_, rfl⟩
            obtain ⟨nq2, hnq2⟩ : ∃ m, m = q2.length := ⟨_, rfl⟩
            rw [← hno2] at h8'
            have hsum2 : ni = no2 + nq2 := by have := HNI.out; rw [heq2, List.length_append] at this; omega
            have hni2 : ni ≤ 200 := by have := HNI.out; omega
            have ORD4 := Lib.hid ord2; have HEQ2 := Lib.hid heq2; have HNO2 := Lib.hid hno2; have HNQ2 := Lib.hid hnq2; have HG2 := Lib.hid hg2
            clear ord2 heq2 hno2 hnq2 hg2
            subst h8'
            have cl := fun w h => elenS R G2 room nq2 q2 w h HNQ2.out.symm
            have CL := Lib.hid cl; clear cl
            by_cases hz : nq2 = 0
            · have hq0 : q2 = [] := List.length_eq_zero_iff.1 (by rw [← HNQ2.out]; exact hz)
              have hio : ins = outs2 := by have := HEQ2.out; rw [hq0, List.append_nil] at this; exact this
              have hnn : ni = no2 := by omega
              have HIO := Lib.hid hio
              clear hq0 hio hsum2
              subst hz hnn
              go_wp2_with (go_at_call 20; refine (CL.out _ ORD4.out.ring).mono ?_; rintro e w' ⟨rfl, rfl⟩)
              go_loopw [90] (fun i wx => ∃ j m : Nat, j ≤ ni ∧ i = .int .i64 j ∧ wx = wr.drewN m) (fun i _ => ni - (intOf i).toNat)
              case atStart => exact ⟨0, 0, Nat.zero_le _, rfl, (World.drewN_zero _).symm⟩
              case round =>
                obtain ⟨j, m, hj, rfl, rfl⟩ := hrel
                by_cases hjn : j < ni
                · have hjl : j < ins.length := by rw [← HNI.out]; exact hjn
                  have ri := ORD4.out.i
                  have ro := ORD4.out.o
                  rw [← HIO.out] at ro
                  obtain ⟨ga, ca, ea, -, -⟩ := ri.form (by omega)
                  obtain ⟨gb, cb, eb, -, -⟩ := ro.form (by omega)
                  rw [ea] at ri
                  rw [eb] at ro
                  have k1 := ri.cellAt j (by omega)
                  have k2 := ro.cellAt j (by omega)
                  rw [List.getElem?_map, List.getElem?_eq_getElem hjl] at k1 k2
                  obtain ⟨y, hy⟩ : ∃ y, y = ins[j] := ⟨_, rfl⟩
                  rw [← hy] at k1 k2
                  have k1 : wr.cell? ⟨ga, j, none⟩ = some (.string y) := k1
                  have k2 : wr.cell? ⟨gb, j, none⟩ = some (.string y) := k2
                  injection ea with ea1 ea2 ea3
                  injection eb with eb1 eb2 eb3
                  clear ri ro hy hjl ea2 ea3 eb2 eb3
                  subst ea1 eb1
                  go_wp2
                  go_quiet (fail)
                  go_wp2
                  go_roundw
                  case rel => exact ⟨j + 1, _, hjn, by go_num, by first | rfl | (rw [World.drewN_drewN])⟩
                  case measure => simp [intOf]; omega
                · go_wp2
                  go_ret
                  exact ⟨rfl, below_dn ORD4.out.bel m⟩
            · obtain ⟨x, q3, hxq⟩ : ∃ x q3, q2 = x :: q3 := by
                cases q2 with
                | nil => exact absurd HNQ2.out hz
                | cons x q3 => exact ⟨x, q3, rfl⟩
              have hr0 := ORD4.out.ring
              rw [hxq] at hr0
              have cpop := epopS_some R G2 room q3 x wr hr0
              have CPOP := Lib.hid cpop
              have hq3 : q3.length < gk := by have := HG2.out; rw [hxq, List.length_cons] at this; omega
              have HQ3 := Lib.hid hq3
              have HEQ3 := Lib.hid (show ins = (outs2 ++ [x]) ++ q3 by rw [HEQ2.out, hxq, List.append_assoc]; rfl)
              have hpos : (0 : Int) < (nq2 : Int) := by omega
              have hno3 : no2 ≤ 200 := by omega
              clear hr0 cpop hxq hq3 hz hsum2
              go_wp2_with (go_at_call 20; refine (CL.out _ ORD4.out.ring).mono ?_; rintro e w' ⟨rfl, rfl⟩)
              refine CPOP.out.mono ?_
              rintro e w2' ⟨rfl, hr2, hc2⟩
              have ord2 := ORD4.out.rung hc2 hr2 (.inl rfl)
              have ORD2 := Lib.hid ord2
              clear hr2 hc2 ord2
              go_wp2_with (at_builtin; refine wpList_append_lies _ rfl (.tmp 79) (.tmp 81) 38 rfl w.heap.size 9 i0 (.string ⟨#[]⟩) 1 16 Try.underlying38 hi hz0 hz1 hz2 rfl (by decide) _ outs2.length (outs2.map Value.string) rfl (ORD2.out.alloc _).o ⟨w2'.heap.size, 0, none⟩ 1 1 [.string x] rfl rfl ?c1 ?c2 (by decide) ?c3 ?c4 ?c5 _ rfl ?_)

              case c1 => intro j u hu; rcases j with _ | j; (injection hu with hu; subst hu; simp [go_sem]); cases hu
              case c2 => intro u hu; simp at hu; subst hu; rfl
              case c3 => have := HNO2.out; unfold maxLen; omega
              case c4 => have := HNO2.out; omega
              case c5 => have := ORD2.out.le; simp [go_sem]; try omega
              intro g cap' w3' hown hgr hat hlt'
              have ord3 := (ORD2.out.alloc _).appO hown hgr (hat.imp id (fun h => by rw [h]; simp))
              have ORD3 := Lib.hid ord3
              clear ord3 hown hgr hat hlt'
              go_wp2
              go_roundg q3.length
              case measure => exact HQ3.out
              case rel => exact ⟨G2, outs2 ++ [x], q3, rfl, HEQ3.out, ORD3.out⟩
        have h200 : k < 200 := by omega
        cases he : s.toList.isEmpty
        · by_cases hq : q.length = room
          · have HQ0 := Lib.hid hq; clear hq
            obtain ⟨q3, hq3⟩ : ∃ q3 : List ByteArray, q3 = q := ⟨_, rfl⟩
            go_wp2_with fail
            refine (epushS_full s R G room q _ HORD.out.ring HQ0.out).mono ?_
            rintro e w2' ⟨rfl, rfl⟩
            obtain ⟨G3, hG3⟩ : ∃ G3, G3 = G := ⟨_, rfl⟩
            have ord3 := HORD.out
            rw [← hq3, ← hG3] at ord3
            obtain ⟨n6, hn6⟩ : ∃ m, m = ni := ⟨_, rfl⟩
            obtain ⟨n7, hn7⟩ : ∃ m, m = no := ⟨_, rfl⟩
            rw [← hn6, ← hn7] at ord3
            rw [← hn6, ← hn7]
            have HN6 := Lib.hid (hn6.trans HNI.out); have HN7 := Lib.hid (hn7.trans HNO.out)
            have ORD3 := Lib.hid ord3
            have HLEN3 := Lib.hid (show ins.length = outs.length + q3.length by rw [hq3]; exact HLEN.out)
            have HEQ3 := Lib.hid (show ins = outs ++ q3 by rw [hq3]; exact HEQ.out)
            clear ord3 hq3 hG3 hn6 hn7

            clear he
            obtain ⟨nq, hnq⟩ : ∃ m, m = q3.length := ⟨_, rfl⟩
            have hsum : n6 = n7 + nq := by have := HLEN3.out; have := HN6.out; have := HN7.out; omega
            have hni3 : n6 ≤ 201 := by have := HN6.out; have := HNI.out; omega
            have hl3 := ORD3.out.ring.le.1
            rw [← hnq] at hl3
            have hb1 : ((nq : Int) != (n6 : Int) - (n7 : Int)) = false := by simp; omega
            have hb2 : decide ((room : Int) < (nq : Int)) = false := decide_eq_false (by omega)
            have hb3 : (n7 : Int) ≤ (n6 : Int) := by omega
            have cl := fun w h => elenS R G3 room nq q3 w h hnq.symm
            have HSUM := Lib.hid hsum; have HNQ := Lib.hid hnq
            clear hsum hnq
            have CL := Lib.hid cl; clear cl
            go_wp2_with (go_at_call 20; refine (CL.out _ ORD3.out.ring).mono ?_; rintro e w' ⟨rfl, rfl⟩)
            go_roundw
            case rel => exact ⟨k + 1, G3, ins, outs, q3, hlt, by omega, by have := HNI.out; simp; try omega, HEQ3.out, by go_num, ORD3.out⟩
            case measure => simp [intOf]; omega
          · have hq : q.length < room := by have := HORD.out.ring.le.1; omega
            have HQ0 := Lib.hid hq; clear hq
            go_wp2_with fail
            refine (epushS_fits s R G room q _ HORD.out.ring HQ0.out).mono ?_
            rintro e w2' ⟨rfl, ⟨G3, hG3, hr2⟩, hc2⟩
            have ord2 := HORD.out.rung hc2 hr2 hG3
            obtain ⟨q3, hq3⟩ : ∃ q3 : List ByteArray, q3 = q ++ [s] := ⟨_, rfl⟩
            rw [← hq3] at ord2
            have ORD2 := Lib.hid ord2
            have HLEN3 := Lib.hid (show ins.length + 1 = outs.length + q3.length by rw [HEQ.out, hq3]; simp; omega)
            have HEQ3 := Lib.hid (show ins ++ [s] = outs ++ q3 by rw [HEQ.out, hq3, List.append_assoc])
            clear hr2 hc2 hG3 ord2 hq3

            go_wp2_with (at_builtin; refine wpList_append_lies _ rfl (.tmp 44) (.tmp 46) 38 rfl w.heap.size 9 i0 (.string ⟨#[]⟩) 1 16 Try.underlying38 hi hz0 hz1 hz2 rfl (by decide) _ ins.length (ins.map Value.string) rfl (ORD2.out.alloc _).i ⟨w2'.heap.size, 0, none⟩ 1 1 [.string s] rfl rfl ?c1 ?c2 (by decide) ?c3 ?c4 ?c5 _ rfl ?_)

            case c1 => intro j u hu; rcases j with _ | j; (injection hu with hu; subst hu; simp [go_sem]); cases hu
            case c2 => intro u hu; simp at hu; subst hu; rfl
            case c3 => have := HNI.out; have := HNO.out; have := HLEN.out; unfold maxLen; omega
            case c4 => have := HNI.out; have := HNO.out; have := HLEN.out; omega
            case c5 => have := ORD2.out.le; simp [go_sem]; try omega

            intro g cap' w3 hown hgr hat hlt'
            have ord3 := (ORD2.out.alloc _).appI hown hgr (hat.imp id (fun h => by rw [h]; simp))
            obtain ⟨n6, hn6⟩ : ∃ m, m = ins.length + 1 := ⟨_, rfl⟩
            obtain ⟨n7, hn7⟩ : ∃ m, m = no := ⟨_, rfl⟩
            rw [← hn6, ← hn7] at ord3
            rw [← hn6, ← hn7]
            have HN6 := Lib.hid hn6; have HN7 := Lib.hid (hn7.trans HNO.out)
            have ORD3 := Lib.hid ord3
            clear ord3 hown hgr hat hlt' hn6 hn7

            clear he
            obtain ⟨nq, hnq⟩ : ∃ m, m = q3.length := ⟨_, rfl⟩
            have hsum : n6 = n7 + nq := by have := HLEN3.out; have := HN6.out; have := HN7.out; omega
            have hni3 : n6 ≤ 201 := by have := HN6.out; have := HNI.out; omega
            have hl3 := ORD3.out.ring.le.1
            rw [← hnq] at hl3
            have hb1 : ((nq : Int) != (n6 : Int) - (n7 : Int)) = false := by simp; omega
            have hb2 : decide ((room : Int) < (nq : Int)) = false := decide_eq_false (by omega)
            have hb3 : (n7 : Int) ≤ (n6 : Int) := by omega
            have cl := fun w h => elenS R G3 room nq q3 w h hnq.symm
            have HSUM := Lib.hid hsum; have HNQ := Lib.hid hnq
            clear hsum hnq
            have CL := Lib.hid cl; clear cl
            go_wp2_with (go_at_call 20; refine (CL.out _ ORD3.out.ring).mono ?_; rintro e w' ⟨rfl, rfl⟩)
            go_roundw
            case rel => exact ⟨k + 1, G3, ins ++ [s], outs, q3, hlt, by omega, by have := HNI.out; simp; try omega, HEQ3.out, by go_num, ORD3.out⟩
            case measure => simp [intOf]; omega
        · by_cases hq : q = []
          · have HQ0 := Lib.hid hq; clear hq
            have hq0 := HQ0.out
            obtain ⟨q3, hq3⟩ : ∃ q3 : List ByteArray, q3 = q := ⟨_, rfl⟩
            have hr0 := HORD.out.ring
            rw [hq0] at hr0
            go_wp2_with fail
            refine (epopS_none R G room _ hr0).mono ?_
            rintro e w2' ⟨rfl, rfl⟩
            obtain ⟨G3, hG3⟩ : ∃ G3, G3 = G := ⟨_, rfl⟩
            have ord3 := HORD.out
            rw [← hq3, ← hG3] at ord3
            obtain ⟨n6, hn6⟩ : ∃ m, m = ni := ⟨_, rfl⟩
            obtain ⟨n7, hn7⟩ : ∃ m, m = no := ⟨_, rfl⟩
            rw [← hn6, ← hn7] at ord3
            rw [← hn6, ← hn7]
            have HN6 := Lib.hid (hn6.trans HNI.out); have HN7 := Lib.hid (hn7.trans HNO.out)
            have ORD3 := Lib.hid ord3
            have HLEN3 := Lib.hid (show ins.length = outs.length + q3.length by rw [hq3]; exact HLEN.out)
            have HEQ3 := Lib.hid (show ins = outs ++ q3 by rw [hq3]; exact HEQ.out)
            clear ord3 hq3 hG3 hr0 hq0 hn6 hn7

            clear he
            obtain ⟨nq, hnq⟩ : ∃ m, m = q3.length := ⟨_, rfl⟩
            have hsum : n6 = n7 + nq := by have := HLEN3.out; have := HN6.out; have := HN7.out; omega
            have hni3 : n6 ≤ 201 := by have := HN6.out; have := HNI.out; omega
            have hl3 := ORD3.out.ring.le.1
            rw [← hnq] at hl3
            have hb1 : ((nq : Int) != (n6 : Int) - (n7 : Int)) = false := by simp; omega
            have hb2 : decide ((room : Int) < (nq : Int)) = false := decide_eq_false (by omega)
            have hb3 : (n7 : Int) ≤ (n6 : Int) := by omega
            have cl := fun w h => elenS R G3 room nq q3 w h hnq.symm
            have HSUM := Lib.hid hsum; have HNQ := Lib.hid hnq
            clear hsum hnq
            have CL := Lib.hid cl; clear cl
            go_wp2_with (go_at_call 20; refine (CL.out _ ORD3.out.ring).mono ?_; rintro e w' ⟨rfl, rfl⟩)
            go_roundw
            case rel => exact ⟨k + 1, G3, ins, outs, q3, hlt, by omega, by have := HNI.out; simp; try omega, HEQ3.out, by go_num, ORD3.out⟩
            case measure => simp [intOf]; omega
          · have HQ0 := Lib.hid hq; clear hq
            obtain ⟨x, q3, hxq⟩ : ∃ x q3, q = x :: q3 := by
              cases q with
              | nil => exact absurd rfl HQ0.out
              | cons x q3 => exact ⟨x, q3, rfl⟩
            have hr0 := HORD.out.ring
            rw [hxq] at hr0
            go_wp2_with fail
            refine (epopS_some R G room q3 x _ hr0).mono ?_
            rintro e w2' ⟨rfl, hr2, hc2⟩
            have ord2 := HORD.out.rung hc2 hr2 (.inl rfl)
            have ORD2 := Lib.hid ord2
            have HLEN3 := Lib.hid (show ins.length = outs.length + 1 + q3.length by rw [HEQ.out, List.length_append, hxq, List.length_cons]; omega)
            have HEQ3 := Lib.hid (show ins = (outs ++ [x]) ++ q3 by rw [HEQ.out, hxq, List.append_assoc]; rfl)
            clear hr2 hc2 hr0 ord2 hxq

            go_wp2_with (at_builtin; refine wpList_append_lies _ rfl (.tmp 37) (.tmp 39) 38 rfl w.heap.size 9 i0 (.string ⟨#[]⟩) 1 16 Try.underlying38 hi hz0 hz1 hz2 rfl (by decide) _ outs.length (outs.map Value.string) rfl (ORD2.out.alloc _).o ⟨w2'.heap.size, 0, none⟩ 1 1 [.string x] rfl rfl ?c1 ?c2 (by decide) ?c3 ?c4 ?c5 _ rfl ?_)

            case c1 => intro j u hu; rcases j with _ | j; (injection hu with hu; subst hu; simp [go_sem]); cases hu
            case c2 => intro u hu; simp at hu; subst hu; rfl
            case c3 => have := HNI.out; have := HNO.out; have := HLEN.out; unfold maxLen; omega
            case c4 => have := HNI.out; have := HNO.out; have := HLEN.out; omega
            case c5 => have := ORD2.out.le; simp [go_sem]; try omega

            intro g cap' w3 hown hgr hat hlt'
            have ord3 := (ORD2.out.alloc _).appO hown hgr (hat.imp id (fun h => by rw [h]; simp))
            obtain ⟨G3, hG3⟩ : ∃ G3, G3 = G := ⟨_, rfl⟩
            rw [← hG3] at ord3
            obtain ⟨n6, hn6⟩ : ∃ m, m = ni := ⟨_, rfl⟩
            obtain ⟨n7, hn7⟩ : ∃ m, m = outs.length + 1 := ⟨_, rfl⟩
            rw [← hn6, ← hn7] at ord3
            rw [← hn6, ← hn7]
            have HN6 := Lib.hid (hn6.trans HNI.out); have HN7 := Lib.hid hn7
            have ORD3 := Lib.hid ord3
            clear ord3 hown hgr hat hlt' hG3 hn6 hn7

            clear he
            obtain ⟨nq, hnq⟩ : ∃ m, m = q3.length := ⟨_, rfl⟩
            have hsum : n6 = n7 + nq := by have := HLEN3.out; have := HN6.out; have := HN7.out; omega
            have hni3 : n6 ≤ 201 := by have := HN6.out; have := HNI.out; omega
            have hl3 := ORD3.out.ring.le.1
            rw [← hnq] at hl3
            have hb1 : ((nq : Int) != (n6 : Int) - (n7 : Int)) = false := by simp; omega
            have hb2 : decide ((room : Int) < (nq : Int)) = false := decide_eq_false (by omega)
            have hb3 : (n7 : Int) ≤ (n6 : Int) := by omega
            have cl := fun w h => elenS R G3 room nq q3 w h hnq.symm
            have HSUM := Lib.hid hsum; have HNQ := Lib.hid hnq
            clear hsum hnq
            have CL := Lib.hid cl; clear cl
            go_wp2_with (go_at_call 20; refine (CL.out _ ORD3.out.ring).mono ?_; rintro e w' ⟨rfl, rfl⟩)
            go_roundw
            case rel => exact ⟨k + 1, G3, ins, outs ++ [x], q3, hlt, by omega, by have := HNI.out; simp; try omega, HEQ3.out, by go_num, ORD3.out⟩
            case measure => simp [intOf]; omega
    · have hkn : k = n := by omega
      subst hkn
      clear hbel
      go_wp2
      try rw [show (decide (200 ≤ (k : Int))) = true from decide_eq_true (by omega)]
      go_loopg [7] q.length (fun g vo wr => ∃ (G : Nat) (outs q : List ByteArray), q.length = g ∧ ins = outs ++ q ∧ Ord w.heap.size w wr R G room (.slice A6 ni c6) vo ins outs q)
      case atStart => exact ⟨G, outs, q, rfl, HEQ.out, HORD.out⟩
      case round =>
        clear HORD HEQ HLEN HNO
        obtain ⟨G2, outs2, q2, hg2, heq2, ord2⟩ := hrel
        obtain ⟨A8, c8, h8'⟩ := own_form ord2.o
        obtain ⟨no2, hno2⟩ : ∃ m, m = outs2.length := ⟨_, rfl⟩
        obtain ⟨nq2, hnq2⟩ : ∃ m, m = q2.length := ⟨_, rfl⟩
        rw [← hno2] at h8'
        have hsum2 : ni = no2 + nq2 := by have := HNI.out; rw [heq2, List.length_append] at this; omega
        have hni2 : ni ≤ 200 := by have := HNI.out; omega
        have ORD4 := Lib.hid ord2; have HEQ2 := Lib.hid heq2; have HNO2 := Lib.hid hno2; have HNQ2 := Lib.hid hnq2; have HG2 := Lib.hid hg2
        clear ord2 heq2 hno2 hnq2 hg2
        subst h8'
        have cl := fun w h => elenS R G2 room nq2 q2 w h HNQ2.out.symm
        have CL := Lib.hid cl; clear cl
        by_cases hz : nq2 = 0
        · have hq0 : q2 = [] := List.length_eq_zero_iff.1 (by rw [← HNQ2.out]; exact hz)
          have hio : ins = outs2 := by have := HEQ2.out; rw [hq0, List.append_nil] at this; exact this
          have hnn : ni = no2 := by omega
          have HIO := Lib.hid hio
          clear hq0 hio hsum2
          subst hz hnn
          go_wp2_with (go_at_call 20; refine (CL.out _ ORD4.out.ring).mono ?_; rintro e w' ⟨rfl, rfl⟩)
          go_loopw [90] (fun i wx => ∃ j m : Nat, j ≤ ni ∧ i = .int .i64 j ∧ wx = wr.drewN m) (fun i _ => ni - (intOf i).toNat)
          case atStart => exact ⟨0, 0, Nat.zero_le _, rfl, (World.drewN_zero _).symm⟩
          case round =>
            obtain ⟨j, m, hj, rfl, rfl⟩ := hrel
            by_cases hjn : j < ni
            · have hjl : j < ins.length := by rw [← HNI.out]; exact hjn
              have ri := ORD4.out.i
              have ro := ORD4.out.o
              rw [← HIO.out] at ro
              obtain ⟨ga, ca, ea, -, -⟩ := ri.form (by omega)
              obtain ⟨gb, cb, eb, -, -⟩ := ro.form (by omega)
              rw [ea] at ri
              rw [eb] at ro
              have k1 := ri.cellAt j (by omega)
              have k2 := ro.cellAt j (by omega)
              rw [List.getElem?_map, List.getElem?_eq_getElem hjl] at k1 k2
              obtain ⟨y, hy⟩ : ∃ y, y = ins[j] := ⟨_, rfl⟩
              rw [← hy] at k1 k2
              have k1 : wr.cell? ⟨ga, j, none⟩ = some (.string y) := k1
              have k2 : wr.cell? ⟨gb, j, none⟩ = some (.string y) := k2
              injection ea with ea1 ea2 ea3
              injection eb with eb1 eb2 eb3
              clear ri ro hy hjl ea2 ea3 eb2 eb3
              subst ea1 eb1
              go_wp2
              go_quiet (fail)
              go_wp2
              go_roundw
              case rel => exact ⟨j + 1, _, hjn, by go_num, by first | rfl | (rw [World.drewN_drewN])⟩
              case measure => simp [intOf]; omega
            · go_wp2
              go_ret
              exact ⟨rfl, below_dn ORD4.out.bel m⟩
        · obtain ⟨x, q3, hxq⟩ : ∃ x q3, q2 = x :: q3 := by
            cases q2 with
            | nil => exact absurd HNQ2.out hz
            | cons x q3 => exact ⟨x, q3, rfl⟩
          have hr0 := ORD4.out.ring
          rw [hxq] at hr0
          have cpop := epopS_some R G2 room q3 x wr hr0
          have CPOP := Lib.hid cpop
          have hq3 : q3.length < gk := by have := HG2.out; rw [hxq, List.length_cons] at this; omega
          have HQ3 := Lib.hid hq3
          have HEQ3 := Lib.hid (show ins = (outs2 ++ [x]) ++ q3 by rw [HEQ2.out, hxq, List.append_assoc]; rfl)
          have hpos : (0 : Int) < (nq2 : Int) := by omega
          have hno3 : no2 ≤ 200 := by omega
          clear hr0 cpop hxq hq3 hz hsum2
          go_wp2_with (go_at_call 20; refine (CL.out _ ORD4.out.ring).mono ?_; rintro e w' ⟨rfl, rfl⟩)
          refine CPOP.out.mono ?_
          rintro e w2' ⟨rfl, hr2, hc2⟩
          have ord2 := ORD4.out.rung hc2 hr2 (.inl rfl)
          have ORD2 := Lib.hid ord2
          clear hr2 hc2 ord2
          go_wp2_with (at_builtin; refine wpList_append_lies _ rfl (.tmp 79) (.tmp 81) 38 rfl w.heap.size 9 i0 (.string ⟨#[]⟩) 1 16 Try.underlying38 hi hz0 hz1 hz2 rfl (by decide) _ outs2.length (outs2.map Value.string) rfl (ORD2.out.alloc _).o ⟨w2'.heap.size, 0, none⟩ 1 1 [.string x] rfl rfl ?c1 ?c2 (by decide) ?c3 ?c4 ?c5 _ rfl ?_)

          case c1 => intro j u hu; rcases j with _ | j; (injection hu with hu; subst hu; simp [go_sem]); cases hu
          case c2 => intro u hu; simp at hu; subst hu; rfl
          case c3 => have := HNO2.out; unfold maxLen; omega
          case c4 => have := HNO2.out; omega
          case c5 => have := ORD2.out.le; simp [go_sem]; try omega
          intro g cap' w3' hown hgr hat hlt'
          have ord3 := (ORD2.out.alloc _).appO hown hgr (hat.imp id (fun h => by rw [h]; simp))
          have ORD3 := Lib.hid ord3
          clear ord3 hown hgr hat hlt'
          go_wp2
          go_roundg q3.length
          case measure => exact HQ3.out
          case rel => exact ⟨G2, outs2 ++ [x], q3, rfl, HEQ3.out, ORD3.out⟩
end Go.Proofs.Yteepofehjofeaaa
