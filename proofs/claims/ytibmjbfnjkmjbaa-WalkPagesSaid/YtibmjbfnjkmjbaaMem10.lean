/-
  The program's memory and the document's, side by side, and the word at a place: contracts without cases. Each says its own conditions.
-/
import Derived.Test.YtibmjbfnjkmjbaaPhysB
import Derived.Test.YtibmjbfnjkmjbaaRefB06
namespace Go.Proofs.Ytibmjbfnjkmjbaa
open Go.RowKit
set_option linter.unusedVariables false
set_option linter.unusedSimpArgs false

theorem MemP.x {w : World} {mp mb fr n : Nat} {pg : Nat → Option Nat} {C : Nat → List Int} (h : MemP w mp mb fr n pg C) : MemX w mp fr n C (FpP mb pg) := ⟨mb, pg, h, rfl⟩
theorem newX (n : Nat) (w : World) (h1 : 1 ≤ n) (h2 : n ≤ 1048576) : Calls Try.prog 14 #[.int .i64 n] w fun e w' => ∃ mp F, e = .returned (.tuple #[.pointer (some ⟨mp, 0, none⟩), .int .i64 0]) ∧ w.heap.size ≤ mp ∧ (∀ k, F k → w.heap.size ≤ k) ∧ MemX w' mp n 0 (fun _ => List.replicate 4096 0) F ∧ Chg no w w' := by
  refine (new_yes n w h1 h2).mono ?_
  rintro e w' ⟨mp, mb, rfl, hm, hb, hM, hc⟩
  refine ⟨mp, _, rfl, hm, ?_, hM.x, hc⟩
  rintro k (rfl | ⟨f, hf⟩)
  · exact hb
  · cases hf
/-- what a load answers -/
def ldV (fr : Nat) (C : Nat → List Int) (a : Nat) (s : Int) : Int := if errL fr a s = 0 then wordC C a s.toNat else 0
/-- what is there behind a store -/
def stC (fr : Nat) (C : Nat → List Int) (a : Nat) (s v : Int) : Nat → List Int := if errL fr a s = 0 then layC C a s.toNat v else C
def stL (fr : Nat) (L : List (Nat × Int)) (a : Nat) (s v : Int) : List (Nat × Int) := if errL fr a s = 0 then putsB L a (byt v s.toNat) else L
/-- the two are one memory -/
structure Pair (w wr : World) (mp rm fr k : Nat) (F : Nat → Prop) (vv : Value) (C : Nat → List Int) (L : List (Nat × Int)) : Prop where
  mem : MemX wr mp fr k C F
  ref : RefM wr rm fr vv L
  agr : Agree C L
  len : L.length ≤ 4096 * k
  kk : k ≤ 100
  fF : ∀ j, F j → w.heap.size ≤ j
  fV : ∀ j, vv.ownBlock = some j → w.heap.size ≤ j
  s1 : ¬ F rm
  s2 : ∀ j, vv.ownBlock = some j → ¬ F j ∧ j ≠ mp
  s3 : mp ≠ rm
  bm : w.heap.size ≤ mp
  br : w.heap.size ≤ rm
  chg : Chg no w wr
section
variable {w wr w1 w2 : World} {mp rm fr k : Nat} {F F' : Nat → Prop} {vv v' : Value} {C C' : Nat → List Int} {L L' : List (Nat × Int)}
theorem Pair.any (T : Pair w wr mp rm fr k F vv C L) (hc : Chg no wr w1) : Pair w w1 mp rm fr k F vv C L :=
  ⟨T.mem.chg hc (fun h => h) (fun _ _ h => h), T.ref.chg hc (fun h => h) (fun _ _ h => h), T.agr, T.len, T.kk, T.fF, T.fV, T.s1, T.s2, T.s3, T.bm, T.br, T.chg.trans hc⟩
theorem Chg.newer {G : Nat → Prop} (h : Chg G wr w1) (hG : ∀ j, G j → wr.heap.size ≤ j) : Chg no wr w1 :=
  ⟨h.os, h.tape, h.output, h.size, fun j hj _ => h.block j hj (fun hg => by have := hG j hg; omega)⟩
theorem Pair.olt (T : Pair w wr mp rm fr k F vv C L) : (∀ j, F j → j < wr.heap.size) ∧ (∀ j, vv.ownBlock = some j → j < wr.heap.size) ∧ mp < wr.heap.size ∧ rm < wr.heap.size :=
  ⟨T.mem.lt, fun j hj => (T.ref.own.lt j hj).2, T.mem.mplt, T.ref.blk.lt⟩
/-- the document's memory behind a call on the program's -/
theorem Pair.ref1 (T : Pair w wr mp rm fr k F vv C L) (hc : Chg F wr w1) : RefM w1 rm fr vv L :=
  T.ref.chg hc T.s1 (fun j hj => (T.s2 j hj).1)
theorem Pair.join (T : Pair w wr mp rm fr k F vv C L) (hm : MemX w1 mp fr (k + 1) C' F') (hx : Ext wr F F') (hc1 : Chg F wr w1) (hr : RefM w2 rm fr v' L') (hn : NewV w1 vv v') (hc2 : Chg (fun j => j = rm) w1 w2)
    (ha : Agree C' L') (hl : L'.length ≤ 4096 * (k + 1)) (hk : k < 100) : Pair w w2 mp rm fr (k + 1) F' v' C' L' := by
  obtain ⟨o1, o2, o3, o4⟩ := T.olt
  have hs := hc1.size
  have z1 := T.chg.size
  have f1 : ¬ F' rm := fun h => (hx rm h).elim T.s1 (fun h => by omega)
  have hmlt := hm.lt
  have hmp := hm.mplt
  refine ⟨hm.chg hc2 T.s3 (fun j hj e => f1 (e ▸ hj)), hr, ha, hl, by omega, fun j hj => ?_, fun j hj => ?_, f1, fun j hj => ?_, T.s3, T.bm, T.br, ?_⟩
  · exact (hx j hj).elim (T.fF j) (fun h => by omega)
  · exact (hn j hj).elim (T.fV j) (fun h => by omega)
  · rcases hn j hj with h | h
    · have := T.s2 j h
      have hj2 := o2 j h
      exact ⟨fun hF => (hx j hF).elim this.1 (fun h => by omega), this.2⟩
    · exact ⟨fun hF => by have := hmlt j hF; omega, by omega⟩
  · exact (T.chg.thenExt hc1 (fun j hj => .inr (T.fF j hj))).thenExt hc2 (fun j hj => .inr (by have := T.br; omega))
end
theorem load_any (mp fr n a : Nat) (s : Int) (C : Nat → List Int) (F : Nat → Prop) (w : World) (h : MemX w mp fr n C F) (ha : a ≤ 18446744073709551615) :
    Calls Try.prog 42 #[.pointer (some ⟨mp, 0, none⟩), .int .u64 a, .int .i64 s] w fun e w' => e = .returned (.tuple #[.int .u64 (ldV fr C a s), .int .i64 (errL fr a s)]) ∧ w = w' := by
  unfold ldV
  by_cases he : errL fr a s = 0
  · rw [if_pos he, he]; exact load_ok mp fr n a s C F w h ha he
  · rw [if_neg he]; exact load_bad mp fr a s w h.c0 ha h.fr.2 he
theorem rload_any (rm fr a : Nat) (s : Int) (v : Value) (C : Nat → List Int) (L : List (Nat × Int)) (w : World) (h : RefM w rm fr v L) (hA : Agree C L) (ha : a ≤ 18446744073709551615) (hfr : fr ≤ 1048576) :
    Calls Try.prog 23 #[.pointer (some ⟨rm, 0, none⟩), .int .u64 a, .int .i64 s] w fun e w' => e = .returned (.tuple #[.int .u64 (ldV fr C a s), .int .i64 (errL fr a s)]) ∧ Chg no w w' := by
  unfold ldV
  by_cases he : errL fr a s = 0
  · have hok := errL_ok he
    obtain ⟨k, rfl, _⟩ := hok.1.nat
    have e1 : wordC C a k = le (bytesB L a k) := by
      unfold wordC
      rw [hA.word a k (size_fits hok.1 hok.2.1)]
    rw [if_pos he, he, Int.toNat_natCast, e1]
    exact rload_ok rm fr a k v L w h hA.bts ha hfr he
  · rw [if_neg he]; exact rload_bad rm fr a s w (h.blk.cell 0) ha hfr he
theorem store_any (mp fr n a : Nat) (s v : Int) (C : Nat → List Int) (F : Nat → Prop) (w : World) (h : MemX w mp fr n C F) (ha : a ≤ 18446744073709551615) (hn : n < 1000) (h0 : 0 ≤ v) (hv : v ≤ 18446744073709551615) :
    Calls Try.prog 15 #[.pointer (some ⟨mp, 0, none⟩), .int .u64 a, .int .i64 s, .int .u64 v] w fun e w' => e = .returned (.int .i64 (errL fr a s)) ∧ ∃ F', MemX w' mp fr (n + 1) (stC fr C a s v) F' ∧ Ext w F F' ∧ Chg F w w' := by
  unfold stC
  by_cases he : errL fr a s = 0
  · rw [if_pos he, he]; exact store_ok mp fr n a s v C F w h ha he hn h0 hv
  · rw [if_neg he]
    refine (store_bad mp fr a s v w h.c0 ha h.fr.2 he).mono ?_
    rintro e w' ⟨rfl, rfl⟩
    exact ⟨rfl, F, h.mono (by omega), Ext.refl _ _, Chg.refl _ _⟩
theorem rstore_any (rm fr a : Nat) (s x : Int) (v : Value) (L : List (Nat × Int)) (w : World) (h : RefM w rm fr v L) (hL : L.length ≤ 900000) (ha : a ≤ 18446744073709551615) (hfr : fr ≤ 1048576) (h0 : 0 ≤ x) (h1 : x ≤ 18446744073709551615) :
    Calls Try.prog 16 #[.pointer (some ⟨rm, 0, none⟩), .int .u64 a, .int .i64 s, .int .u64 x] w fun e w' => e = .returned (.int .i64 (errL fr a s)) ∧ ∃ v', RefM w' rm fr v' (stL fr L a s x) ∧ NewV w v v' ∧ Chg (fun k => k = rm) w w' := by
  unfold stL
  by_cases he : errL fr a s = 0
  · rw [if_pos he, he]; exact rstore_ok rm fr a s x v L w h hL ha hfr he h0 h1
  · rw [if_neg he]
    refine (rstore_bad rm fr a s x w (h.blk.cell 0) ha hfr he).mono ?_
    rintro e w' ⟨rfl, hc⟩
    exact ⟨rfl, v, h.chg hc (fun h => h) (fun _ _ h => h), fun j hj => .inl hj, hc.of_no⟩
theorem st_agree {fr a : Nat} {s v : Int} {C : Nat → List Int} {L : List (Nat × Int)} (h : Agree C L) (hfr : fr ≤ 1048576) : Agree (stC fr C a s v) (stL fr L a s v) := by
  unfold stC stL
  by_cases he : errL fr a s = 0
  · rw [if_pos he, if_pos he]
    have hok := errL_ok he
    obtain ⟨k, rfl, _⟩ := hok.1.nat
    have hfit := size_fits hok.1 hok.2.1
    rw [Int.toNat_natCast]
    exact h.store a k v hfit (by omega)
  · rw [if_neg he, if_neg he]; exact h
theorem st_len (fr a : Nat) (s v : Int) (L : List (Nat × Int)) : (stL fr L a s v).length ≤ L.length + 4096 := by
  unfold stL
  split
  · rename_i he
    obtain ⟨k, rfl, hk⟩ := (errL_ok he).1.nat
    rw [Int.toNat_natCast]
    have := putsB_len (byt v k) L a
    rw [byt_len] at this
    omega
  · omega
/-- the word at a place -/
def Mw (C : Nat → List Int) (a : Nat) : Nat := (wordC C a 8).toNat
theorem MemX.word {w : World} {mp fr n : Nat} {C : Nat → List Int} {F : Nat → Prop} (h : MemX w mp fr n C F) (a : Nat) : wordC C a 8 = (Mw C a : Nat) ∧ Mw C a < 18446744073709551616 := by
  have hb := (h.byt (a / 4096)).1
  have hb' : Byt (((C (a / 4096)).drop (a % 4096)).take 8) := fun x hx => hb x (List.mem_of_mem_drop (List.mem_of_mem_take hx))
  have h0 := le_nn _ hb'
  have h1 := le_lt8 _ hb' (by rw [List.length_take]; omega)
  unfold Mw wordC
  omega
theorem errL_8 (fr a : Nat) (h : a % 8 = 0) : errL fr a 8 = if fr ≤ a / 4096 then 61 else 0 := by
  unfold errL
  have hs : SzI (8 : Int) := by unfold SzI; omega
  rw [if_pos hs, show (8 : Int).toNat = 8 from rfl, if_pos h]
  by_cases hf : fr ≤ a / 4096
  · rw [if_pos hf, if_neg (by omega)]
  · rw [if_neg hf, if_pos (by omega)]
end Go.Proofs.Ytibmjbfnjkmjbaa
