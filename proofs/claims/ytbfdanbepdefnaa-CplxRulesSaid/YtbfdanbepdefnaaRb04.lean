/-
  What the small functions of the document's answer for layer 4 (package runrigref04) answer and leave in memory: contracts over the translation. Each says its own conditions.
-/
import Derived.Test.YtbfdanbepdefnaaRef04
namespace Go.Proofs.Ytbfdanbepdefnaa
open Go.RowKit Ieee
set_option linter.unusedVariables false
attribute [local go_sem] setCell_drewN alloc_drewN

def dS : Datum → Bool
  | .number s _ _ | .infinity s | .nan s _ => s
def dM : Datum → Nat
  | .number _ m _ => m
  | _ => 0
def dE : Datum → Int
  | .number _ _ e => e
  | _ => 0
def dK : Datum → Int
  | .number .. => 0
  | .infinity _ => 1
  | .nan .. => 2
/-- a number as the document has it -/
def dv (d : Datum) : Value := .agg #[.bool (dS d), .int .u64 (dM d : Nat), .int .i64 (dE d), .int .i64 (dK d)]

theorem read_parts (x : Nat) (h : x < 4294967296) : Ieee.single.read x =
    if x / 8388608 % 256 = 255 then (if x % 8388608 = 0 then .infinity (x / 2147483648 % 2 == 1) else .nan (x / 2147483648 % 2 == 1) (x % 8388608))
    else if x / 8388608 % 256 = 0 then .number (x / 2147483648 % 2 == 1) (x % 8388608) (-149)
    else .number (x / 2147483648 % 2 == 1) (x % 8388608 + 8388608) ((x / 8388608 % 256 : Nat) - 150) := by
  unfold Format.read
  simp only [single_least]
  rw [show Ieee.single.signWeight = 2147483648 from by decide, show Ieee.single.binade = 8388608 from by decide, show Ieee.single.infRung = 2139095040 from by decide]
  generalize (x / 2147483648 % 2 == 1) = s
  by_cases h1 : x / 8388608 % 256 = 255
  · rw [if_pos h1, if_neg (by omega), if_neg (by omega)]
    by_cases h2 : x % 8388608 = 0
    · rw [if_pos h2, if_pos (by omega)]
    · rw [if_neg h2, if_neg (by omega), show x % 2147483648 - 2139095040 = x % 8388608 from by omega]
  · rw [if_neg h1]
    by_cases h2 : x / 8388608 % 256 = 0
    · rw [if_pos h2, if_pos (by omega), show x % 2147483648 = x % 8388608 from by omega]
    · rw [if_neg h2, if_neg (by omega), if_pos (by omega), show 8388608 + x % 2147483648 % 8388608 = x % 8388608 + 8388608 from by omega, show (-149 : Int) + ((x % 2147483648 / 8388608 - 1 : Nat) : Int) = ((x / 8388608 % 256 : Nat) : Int) - 150 from by omega]
theorem results_tmp4 {fn : Func} {t u v x : Tmp} (h : fn.results = #[.tmp t, .tmp u, .tmp v, .tmp x]) (tmps : Array Value) (P : Program) (w : World) :
    (results fn tmps).run P w = .ok (.tuple #[tmps.getD t undef, tmps.getD u undef, tmps.getD v undef, tmps.getD x undef]) w := by simp [results, h]
theorem rparts_any (x : Nat) (w : World) (h : x < 4294967296) : Calls Try.prog 45 #[.int .u64 x] w fun r w' => r = .returned (.tuple #[.bool (dS (Ieee.single.read x)), .int .u64 (dM (Ieee.single.read x) : Nat), .int .i64 (dE (Ieee.single.read x)), .int .i64 (dK (Ieee.single.read x))]) ∧ w = w' := by
  rw [read_parts x h]
  have hx : (x : Int) ≤ 4294967295 := by omega
  have hs : (((x : Int) / 2147483648 % 2 == 1)) = (x / 2147483648 % 2 == 1) := by rw [Bool.eq_iff_iff]; simp; omega
  have HS := Lib.hid hs; clear hs
  by_cases h1 : x / 8388608 % 256 = 255
  · have k1 : ((x : Int) / 8388608 % 256 == 255) = true := by simp; omega
    rw [if_pos h1]
    by_cases h2 : x % 8388608 = 0
    · have k2 : ((x : Int) % 8388608 == 0) = true := by simp; omega
      rw [if_pos h2]
      clear h1 h2
      go_enter Try.func45, Try.ntmps45
      go_wp2
      refine bodyPost_ret (results_tmp4 rfl _ _ _) rfl ?_
      exact ⟨by rw [← HS.out]; rfl, rfl⟩
    · have k2 : ((x : Int) % 8388608 == 0) = false := by simp; omega
      rw [if_neg h2]
      clear h1 h2
      go_enter Try.func45, Try.ntmps45
      go_wp2
      refine bodyPost_ret (results_tmp4 rfl _ _ _) rfl ?_
      exact ⟨by rw [← HS.out]; rfl, rfl⟩
  · have k1 : ((x : Int) / 8388608 % 256 == 255) = false := by simp; omega
    rw [if_neg h1]
    by_cases h2 : x / 8388608 % 256 = 0
    · have k2 : ((x : Int) / 8388608 % 256 == 0) = true := by simp; omega
      rw [if_pos h2]
      clear h1 h2
      go_enter Try.func45, Try.ntmps45
      go_wp2
      refine bodyPost_ret (results_tmp4 rfl _ _ _) rfl ?_
      exact ⟨by rw [← HS.out]; rfl, rfl⟩
    · have k2 : ((x : Int) / 8388608 % 256 == 0) = false := by simp; omega
      rw [if_neg h2]
      clear h1 h2
      go_enter Try.func45, Try.ntmps45
      go_wp2
      refine bodyPost_ret (results_tmp4 rfl _ _ _) rfl ?_
      exact ⟨by rw [← HS.out]; rfl, rfl⟩
theorem rof_any (x : Nat) (w : World) (h : x < 4294967296) : Calls Try.prog 41 #[.int .u64 x] w fun r w' => r = .returned (dv (Ieee.single.read x)) ∧ Below w.heap.size w w' := by
  unfold dv
  obtain ⟨d, hd⟩ : ∃ d, d = Ieee.single.read x := ⟨_, rfl⟩
  have c := fun w => rparts_any x w h
  rw [← hd] at c ⊢
  clear hd
  have C := Lib.hid c; clear c
  go_enter Try.func41, Try.ntmps41
  go_wp2_with fail
  refine (C.out _).mono ?_
  rintro e w' ⟨rfl, rfl⟩
  go_wp2
  refine bodyPost_ret (v := .agg #[.bool (dS d), .int .u64 (dM d : Nat), .int .i64 (dE d), .int .i64 (dK d)]) (by simp [results, Try.results41, go_sem]) rfl ⟨rfl, ?_⟩
  repeat (first | (with_reducible refine Below.setCell ?_ ?ybel _; case ybel => (first | omega | (simp <;> omega))) | (with_reducible refine Below.alloc ?_ ?ybel _; case ybel => (first | omega | (simp <;> omega))) | (with_reducible refine below_drewNs ?_ _) | (with_reducible refine Below.drew ?_) | (with_reducible exact Below.refl _ _))
theorem rlow_any (x : Nat) (w : World) (h : x < 18446744073709551616) : Calls Try.prog 30 #[.int .u64 x] w fun r w' => r = .returned (dv (Ieee.single.read (x % 4294967296))) ∧ Below w.heap.size w w' := by
  have c := fun w => rof_any (x % 4294967296) w (by omega)
  unfold dv at c ⊢
  generalize Ieee.single.read (x % 4294967296) = d at c ⊢
  have C := Lib.hid c; clear c
  have hx : (x : Int) ≤ 18446744073709551615 := by omega
  go_enter Try.func30, Try.ntmps30
  go_wp2_with fail
  refine (C.out _).mono ?_
  rintro e w' ⟨rfl, hb⟩
  have HB := Lib.hid hb
  obtain ⟨hbc, hbf⟩ := bcell hb
  have hz : w.heap.size < w'.heap.size := by have := hb.size; simp at this; omega
  clear hb
  go_wp2
  refine bodyPost_ret (v := .agg #[.bool (dS d), .int .u64 (dM d : Nat), .int .i64 (dE d), .int .i64 (dK d)]) (by simp [results, Try.results30, go_sem, hbc]) rfl ⟨rfl, ?_⟩
  repeat (first | (with_reducible refine Below.setCell ?_ ?ybel _; case ybel => (first | omega | (simp <;> omega))) | (with_reducible refine Below.alloc ?_ ?ybel _; case ybel => (first | omega | (simp <;> omega))) | (with_reducible refine below_drewNs ?_ _) | (with_reducible refine Below.drew ?_) | (with_reducible exact Below.refl _ _))
  refine Below.trans ?_ (HB.out.mono (by simp))
  repeat (first | (with_reducible refine Below.setCell ?_ ?ybel _; case ybel => (first | omega | (simp <;> omega))) | (with_reducible refine Below.alloc ?_ ?ybel _; case ybel => (first | omega | (simp <;> omega))) | (with_reducible refine below_drewNs ?_ _) | (with_reducible refine Below.drew ?_) | (with_reducible exact Below.refl _ _))
theorem rhigh_any (x : Nat) (w : World) (h : x < 18446744073709551616) : Calls Try.prog 31 #[.int .u64 x] w fun r w' => r = .returned (dv (Ieee.single.read (x / 4294967296))) ∧ Below w.heap.size w w' := by
  have c := fun w => rof_any (x / 4294967296) w (by omega)
  unfold dv at c ⊢
  generalize Ieee.single.read (x / 4294967296) = d at c ⊢
  have C := Lib.hid c; clear c
  have hx : (x : Int) ≤ 18446744073709551615 := by omega
  go_enter Try.func31, Try.ntmps31
  go_wp2_with fail
  refine (C.out _).mono ?_
  rintro e w' ⟨rfl, hb⟩
  have HB := Lib.hid hb
  obtain ⟨hbc, hbf⟩ := bcell hb
  have hz : w.heap.size < w'.heap.size := by have := hb.size; simp at this; omega
  clear hb
  go_wp2
  refine bodyPost_ret (v := .agg #[.bool (dS d), .int .u64 (dM d : Nat), .int .i64 (dE d), .int .i64 (dK d)]) (by simp [results, Try.results31, go_sem, hbc]) rfl ⟨rfl, ?_⟩
  repeat (first | (with_reducible refine Below.setCell ?_ ?ybel _; case ybel => (first | omega | (simp <;> omega))) | (with_reducible refine Below.alloc ?_ ?ybel _; case ybel => (first | omega | (simp <;> omega))) | (with_reducible refine below_drewNs ?_ _) | (with_reducible refine Below.drew ?_) | (with_reducible exact Below.refl _ _))
  refine Below.trans ?_ (HB.out.mono (by simp))
  repeat (first | (with_reducible refine Below.setCell ?_ ?ybel _; case ybel => (first | omega | (simp <;> omega))) | (with_reducible refine Below.alloc ?_ ?ybel _; case ybel => (first | omega | (simp <;> omega))) | (with_reducible refine below_drewNs ?_ _) | (with_reducible refine Below.drew ?_) | (with_reducible exact Below.refl _ _))
theorem rminus_any (d : Datum) (w : World) : Calls Try.prog 32 #[dv d] w fun r w' => r = .returned (dv d.opposite) ∧ Below w.heap.size w w' := by
  have e1 : dS d.opposite = !dS d := by cases d <;> rfl
  have e2 : dM d.opposite = dM d := by cases d <;> rfl
  have e3 : dE d.opposite = dE d := by cases d <;> rfl
  have e4 : dK d.opposite = dK d := by cases d <;> rfl
  unfold dv
  rw [e1, e2, e3, e4]
  clear e1 e2 e3 e4
  go_enter Try.func32, Try.ntmps32
  go_wp2
  refine bodyPost_ret (v := .agg #[.bool (!dS d), .int .u64 (dM d : Nat), .int .i64 (dE d), .int .i64 (dK d)]) (by simp [results, Try.results32, go_sem]) rfl ⟨rfl, ?_⟩
  repeat (first | (with_reducible refine Below.setCell ?_ ?ybel _; case ybel => (first | omega | (simp <;> omega))) | (with_reducible refine Below.alloc ?_ ?ybel _; case ybel => (first | omega | (simp <;> omega))) | (with_reducible refine below_drewNs ?_ _) | (with_reducible refine Below.drew ?_) | (with_reducible exact Below.refl _ _))
/-- of a product -/
def isz : Datum → Bool
  | .number _ m _ => decide (m = 0)
  | _ => false
theorem rzero_any (d : Datum) (w : World) (h : dM d < 18446744073709551616) : Calls Try.prog 42 #[dv d] w fun r w' => r = .returned (.bool (isz d)) ∧ Below w.heap.size w w' := by
  cases d with
  | number s m e =>
    have h : m < 18446744073709551616 := h
    show Calls _ _ #[.agg #[.bool s, .int .u64 (m : Int), .int .i64 e, .int .i64 0]] w _
    have hm : ((m : Int) == 0) = decide (m = 0) := by rw [Bool.eq_iff_iff]; simp
    have HM := Lib.hid hm; clear hm
    go_enter Try.func42, Try.ntmps42
    go_wp2
    go_ret
    exact ⟨congrArg (fun b => Ending.returned (Value.bool b)) HM.out, (Below.refl _ _).alloc (Nat.le_refl _) _⟩
  | infinity s =>
    show Calls _ _ #[.agg #[.bool s, .int .u64 ((0 : Nat) : Int), .int .i64 0, .int .i64 1]] w _
    go_enter Try.func42, Try.ntmps42
    go_wp2
    go_ret
    exact ⟨rfl, (Below.refl _ _).alloc (Nat.le_refl _) _⟩
  | nan s u =>
    show Calls _ _ #[.agg #[.bool s, .int .u64 ((0 : Nat) : Int), .int .i64 0, .int .i64 2]] w _
    go_enter Try.func42, Try.ntmps42
    go_wp2
    go_ret
    exact ⟨rfl, (Below.refl _ _).alloc (Nat.le_refl _) _⟩
/-- a product as the document has it: no answer is a NaN -/
def prodD (d d' : Datum) : Datum := (d.product d').getD (.nan (dS d ^^ dS d') 1)
theorem rtimes_qn (s t : Bool) (m n u v : Nat) (e f : Int) (w : World) : Calls Try.prog 33 #[.agg #[.bool s, .int .u64 ((0 : Nat) : Int), .int .i64 0, .int .i64 2], .agg #[.bool t, .int .u64 (n : Nat), .int .i64 f, .int .i64 0]] w fun r w' => r = .returned (.agg #[.bool (!(s == t)), .int .u64 ((0 : Nat) : Int), .int .i64 (0), .int .i64 2]) ∧ Below w.heap.size w w' := by
  go_enter Try.func33, Try.ntmps33
  go_wp2
  refine bodyPost_ret (v := .agg #[.bool (!(s == t)), .int .u64 ((0 : Nat) : Int), .int .i64 (0), .int .i64 2]) (by simp [results, Try.results33, go_sem]) rfl ⟨rfl, ?_⟩
  repeat (first | (with_reducible refine Below.setCell ?_ ?ybel _; case ybel => (first | omega | (simp <;> omega))) | (with_reducible refine Below.alloc ?_ ?ybel _; case ybel => (first | omega | (simp <;> omega))) | (with_reducible refine below_drewNs ?_ _) | (with_reducible refine Below.drew ?_) | (with_reducible exact Below.refl _ _))
theorem rtimes_qi (s t : Bool) (m n u v : Nat) (e f : Int) (w : World) : Calls Try.prog 33 #[.agg #[.bool s, .int .u64 ((0 : Nat) : Int), .int .i64 0, .int .i64 2], .agg #[.bool t, .int .u64 ((0 : Nat) : Int), .int .i64 0, .int .i64 1]] w fun r w' => r = .returned (.agg #[.bool (!(s == t)), .int .u64 ((0 : Nat) : Int), .int .i64 (0), .int .i64 2]) ∧ Below w.heap.size w w' := by
  go_enter Try.func33, Try.ntmps33
  go_wp2
  refine bodyPost_ret (v := .agg #[.bool (!(s == t)), .int .u64 ((0 : Nat) : Int), .int .i64 (0), .int .i64 2]) (by simp [results, Try.results33, go_sem]) rfl ⟨rfl, ?_⟩
  repeat (first | (with_reducible refine Below.setCell ?_ ?ybel _; case ybel => (first | omega | (simp <;> omega))) | (with_reducible refine Below.alloc ?_ ?ybel _; case ybel => (first | omega | (simp <;> omega))) | (with_reducible refine below_drewNs ?_ _) | (with_reducible refine Below.drew ?_) | (with_reducible exact Below.refl _ _))
theorem rtimes_qq (s t : Bool) (m n u v : Nat) (e f : Int) (w : World) : Calls Try.prog 33 #[.agg #[.bool s, .int .u64 ((0 : Nat) : Int), .int .i64 0, .int .i64 2], .agg #[.bool t, .int .u64 ((0 : Nat) : Int), .int .i64 0, .int .i64 2]] w fun r w' => r = .returned (.agg #[.bool (!(s == t)), .int .u64 ((0 : Nat) : Int), .int .i64 (0), .int .i64 2]) ∧ Below w.heap.size w w' := by
  go_enter Try.func33, Try.ntmps33
  go_wp2
  refine bodyPost_ret (v := .agg #[.bool (!(s == t)), .int .u64 ((0 : Nat) : Int), .int .i64 (0), .int .i64 2]) (by simp [results, Try.results33, go_sem]) rfl ⟨rfl, ?_⟩
  repeat (first | (with_reducible refine Below.setCell ?_ ?ybel _; case ybel => (first | omega | (simp <;> omega))) | (with_reducible refine Below.alloc ?_ ?ybel _; case ybel => (first | omega | (simp <;> omega))) | (with_reducible refine below_drewNs ?_ _) | (with_reducible refine Below.drew ?_) | (with_reducible exact Below.refl _ _))
theorem rtimes_nq (s t : Bool) (m n u v : Nat) (e f : Int) (w : World) : Calls Try.prog 33 #[.agg #[.bool s, .int .u64 (m : Nat), .int .i64 e, .int .i64 0], .agg #[.bool t, .int .u64 ((0 : Nat) : Int), .int .i64 0, .int .i64 2]] w fun r w' => r = .returned (.agg #[.bool (!(s == t)), .int .u64 ((0 : Nat) : Int), .int .i64 (0), .int .i64 2]) ∧ Below w.heap.size w w' := by
  go_enter Try.func33, Try.ntmps33
  go_wp2
  refine bodyPost_ret (v := .agg #[.bool (!(s == t)), .int .u64 ((0 : Nat) : Int), .int .i64 (0), .int .i64 2]) (by simp [results, Try.results33, go_sem]) rfl ⟨rfl, ?_⟩
  repeat (first | (with_reducible refine Below.setCell ?_ ?ybel _; case ybel => (first | omega | (simp <;> omega))) | (with_reducible refine Below.alloc ?_ ?ybel _; case ybel => (first | omega | (simp <;> omega))) | (with_reducible refine below_drewNs ?_ _) | (with_reducible refine Below.drew ?_) | (with_reducible exact Below.refl _ _))
theorem rtimes_iq (s t : Bool) (m n u v : Nat) (e f : Int) (w : World) : Calls Try.prog 33 #[.agg #[.bool s, .int .u64 ((0 : Nat) : Int), .int .i64 0, .int .i64 1], .agg #[.bool t, .int .u64 ((0 : Nat) : Int), .int .i64 0, .int .i64 2]] w fun r w' => r = .returned (.agg #[.bool (!(s == t)), .int .u64 ((0 : Nat) : Int), .int .i64 (0), .int .i64 2]) ∧ Below w.heap.size w w' := by
  go_enter Try.func33, Try.ntmps33
  go_wp2
  refine bodyPost_ret (v := .agg #[.bool (!(s == t)), .int .u64 ((0 : Nat) : Int), .int .i64 (0), .int .i64 2]) (by simp [results, Try.results33, go_sem]) rfl ⟨rfl, ?_⟩
  repeat (first | (with_reducible refine Below.setCell ?_ ?ybel _; case ybel => (first | omega | (simp <;> omega))) | (with_reducible refine Below.alloc ?_ ?ybel _; case ybel => (first | omega | (simp <;> omega))) | (with_reducible refine below_drewNs ?_ _) | (with_reducible refine Below.drew ?_) | (with_reducible exact Below.refl _ _))
theorem rtimes_ii (s t : Bool) (m n u v : Nat) (e f : Int) (w : World) : Calls Try.prog 33 #[.agg #[.bool s, .int .u64 ((0 : Nat) : Int), .int .i64 0, .int .i64 1], .agg #[.bool t, .int .u64 ((0 : Nat) : Int), .int .i64 0, .int .i64 1]] w fun r w' => r = .returned (.agg #[.bool (!(s == t)), .int .u64 ((0 : Nat) : Int), .int .i64 (0), .int .i64 1]) ∧ Below w.heap.size w w' := by
  have hz0 : ∀ w, Calls Try.prog 42 #[.agg #[.bool t, .int .u64 ((0 : Nat) : Int), .int .i64 0, .int .i64 1]] w fun r w' => r = .returned (.bool false) ∧ Below w.heap.size w w' := fun w => by
    have := rzero_any (.infinity t) w (by show _ < _; simp only [dM]; omega)
    have e1 : isz (.infinity t) = false := by simp [isz] <;> omega
    rw [e1] at this
    exact this
  have HZ0 := Lib.hid hz0; clear hz0
  have hz1 : ∀ w, Calls Try.prog 42 #[.agg #[.bool s, .int .u64 ((0 : Nat) : Int), .int .i64 0, .int .i64 1]] w fun r w' => r = .returned (.bool false) ∧ Below w.heap.size w w' := fun w => by
    have := rzero_any (.infinity s) w (by show _ < _; simp only [dM]; omega)
    have e1 : isz (.infinity s) = false := by simp [isz] <;> omega
    rw [e1] at this
    exact this
  have HZ1 := Lib.hid hz1; clear hz1
  go_enter Try.func33, Try.ntmps33
  go_wp2_with fail
  refine (HZ0.out _).mono ?_
  rintro x w1 ⟨rfl, hb0⟩
  have HB0 := Lib.hid hb0
  obtain ⟨hbc0, hbf0⟩ := bcell hb0
  have hs0 : w.heap.size + 3 < w1.heap.size := by have := hb0.size; (try simp at this); omega
  clear hb0
  have hs0a : w.heap.size < w1.heap.size := by omega
  have hs0b : w.heap.size + 1 < w1.heap.size := by omega
  have hs0c : w.heap.size + 1 + 1 < w1.heap.size := by omega
  have hs0d : w.heap.size + 1 + 1 + 1 < w1.heap.size := by omega
  go_wp2_with fail
  refine (HZ1.out _).mono ?_
  rintro x w2 ⟨rfl, hb1⟩
  have HB1 := Lib.hid hb1
  obtain ⟨hbc1, hbf1⟩ := bcell hb1
  have hs1 : w.heap.size + 3 < w2.heap.size := by have := hb1.size; (try simp at this); omega
  clear hb1
  have hs1a : w.heap.size < w2.heap.size := by omega
  have hs1b : w.heap.size + 1 < w2.heap.size := by omega
  have hs1c : w.heap.size + 1 + 1 < w2.heap.size := by omega
  have hs1d : w.heap.size + 1 + 1 + 1 < w2.heap.size := by omega
  go_wp2
  refine bodyPost_ret (v := .agg #[.bool (!(s == t)), .int .u64 ((0 : Nat) : Int), .int .i64 (0), .int .i64 1]) (by simp [results, Try.results33, go_sem, hbc0, hbc1, hs0c]) rfl ⟨rfl, ?_⟩
  repeat (first | (with_reducible refine Below.setCell ?_ ?ybel _; case ybel => (first | omega | (simp <;> omega))) | (with_reducible refine Below.alloc ?_ ?ybel _; case ybel => (first | omega | (simp <;> omega))) | (with_reducible refine below_drewNs ?_ _) | (with_reducible refine Below.drew ?_) | (with_reducible exact Below.refl _ _))
  refine Below.trans ?_ (HB1.out.mono (by (try simp) <;> omega))
  repeat (first | (with_reducible refine Below.setCell ?_ ?ybel _; case ybel => (first | omega | (simp <;> omega))) | (with_reducible refine Below.alloc ?_ ?ybel _; case ybel => (first | omega | (simp <;> omega))) | (with_reducible refine below_drewNs ?_ _) | (with_reducible refine Below.drew ?_) | (with_reducible exact Below.refl _ _))
  refine Below.trans ?_ (HB0.out.mono (by (try simp) <;> omega))
  repeat (first | (with_reducible refine Below.setCell ?_ ?ybel _; case ybel => (first | omega | (simp <;> omega))) | (with_reducible refine Below.alloc ?_ ?ybel _; case ybel => (first | omega | (simp <;> omega))) | (with_reducible refine below_drewNs ?_ _) | (with_reducible refine Below.drew ?_) | (with_reducible exact Below.refl _ _))
theorem rtimes_in (s t : Bool) (m n u v : Nat) (e f : Int) (w : World) (hn : n < 16777216) (h0 : n = 0) : Calls Try.prog 33 #[.agg #[.bool s, .int .u64 ((0 : Nat) : Int), .int .i64 0, .int .i64 1], .agg #[.bool t, .int .u64 (n : Nat), .int .i64 f, .int .i64 0]] w fun r w' => r = .returned (.agg #[.bool (!(s == t)), .int .u64 ((0 : Nat) : Int), .int .i64 (0), .int .i64 2]) ∧ Below w.heap.size w w' := by
  have hz0 : ∀ w, Calls Try.prog 42 #[.agg #[.bool t, .int .u64 (n : Nat), .int .i64 f, .int .i64 0]] w fun r w' => r = .returned (.bool true) ∧ Below w.heap.size w w' := fun w => by
    have := rzero_any (.number t n f) w (by show _ < _; simp only [dM]; omega)
    have e1 : isz (.number t n f) = true := by simp [isz] <;> omega
    rw [e1] at this
    exact this
  have HZ0 := Lib.hid hz0; clear hz0
  clear h0
  go_enter Try.func33, Try.ntmps33
  go_wp2_with fail
  refine (HZ0.out _).mono ?_
  rintro x w1 ⟨rfl, hb0⟩
  have HB0 := Lib.hid hb0
  obtain ⟨hbc0, hbf0⟩ := bcell hb0
  have hs0 : w.heap.size + 3 < w1.heap.size := by have := hb0.size; (try simp at this); omega
  clear hb0
  go_wp2
  refine bodyPost_ret (v := .agg #[.bool (!(s == t)), .int .u64 ((0 : Nat) : Int), .int .i64 (0), .int .i64 2]) (by simp [results, Try.results33, go_sem, hbc0]) rfl ⟨rfl, ?_⟩
  repeat (first | (with_reducible refine Below.setCell ?_ ?ybel _; case ybel => (first | omega | (simp <;> omega))) | (with_reducible refine Below.alloc ?_ ?ybel _; case ybel => (first | omega | (simp <;> omega))) | (with_reducible refine below_drewNs ?_ _) | (with_reducible refine Below.drew ?_) | (with_reducible exact Below.refl _ _))
  refine Below.trans ?_ (HB0.out.mono (by (try simp) <;> omega))
  repeat (first | (with_reducible refine Below.setCell ?_ ?ybel _; case ybel => (first | omega | (simp <;> omega))) | (with_reducible refine Below.alloc ?_ ?ybel _; case ybel => (first | omega | (simp <;> omega))) | (with_reducible refine below_drewNs ?_ _) | (with_reducible refine Below.drew ?_) | (with_reducible exact Below.refl _ _))
theorem rtimes_in1 (s t : Bool) (m n u v : Nat) (e f : Int) (w : World) (hn : n < 16777216) (h0 : n ≠ 0) : Calls Try.prog 33 #[.agg #[.bool s, .int .u64 ((0 : Nat) : Int), .int .i64 0, .int .i64 1], .agg #[.bool t, .int .u64 (n : Nat), .int .i64 f, .int .i64 0]] w fun r w' => r = .returned (.agg #[.bool (!(s == t)), .int .u64 ((0 : Nat) : Int), .int .i64 (0), .int .i64 1]) ∧ Below w.heap.size w w' := by
  have hz0 : ∀ w, Calls Try.prog 42 #[.agg #[.bool t, .int .u64 (n : Nat), .int .i64 f, .int .i64 0]] w fun r w' => r = .returned (.bool false) ∧ Below w.heap.size w w' := fun w => by
    have := rzero_any (.number t n f) w (by show _ < _; simp only [dM]; omega)
    have e1 : isz (.number t n f) = false := by simp [isz] <;> omega
    rw [e1] at this
    exact this
  have HZ0 := Lib.hid hz0; clear hz0
  clear h0
  go_enter Try.func33, Try.ntmps33
  go_wp2_with fail
  refine (HZ0.out _).mono ?_
  rintro x w1 ⟨rfl, hb0⟩
  have HB0 := Lib.hid hb0
  obtain ⟨hbc0, hbf0⟩ := bcell hb0
  have hs0 : w.heap.size + 3 < w1.heap.size := by have := hb0.size; (try simp at this); omega
  clear hb0
  go_wp2
  refine bodyPost_ret (v := .agg #[.bool (!(s == t)), .int .u64 ((0 : Nat) : Int), .int .i64 (0), .int .i64 1]) (by simp [results, Try.results33, go_sem, hbc0]) rfl ⟨rfl, ?_⟩
  repeat (first | (with_reducible refine Below.setCell ?_ ?ybel _; case ybel => (first | omega | (simp <;> omega))) | (with_reducible refine Below.alloc ?_ ?ybel _; case ybel => (first | omega | (simp <;> omega))) | (with_reducible refine below_drewNs ?_ _) | (with_reducible refine Below.drew ?_) | (with_reducible exact Below.refl _ _))
  refine Below.trans ?_ (HB0.out.mono (by (try simp) <;> omega))
  repeat (first | (with_reducible refine Below.setCell ?_ ?ybel _; case ybel => (first | omega | (simp <;> omega))) | (with_reducible refine Below.alloc ?_ ?ybel _; case ybel => (first | omega | (simp <;> omega))) | (with_reducible refine below_drewNs ?_ _) | (with_reducible refine Below.drew ?_) | (with_reducible exact Below.refl _ _))
theorem rtimes_ni (s t : Bool) (m n u v : Nat) (e f : Int) (w : World) (hm : m < 16777216) (h0 : m = 0) : Calls Try.prog 33 #[.agg #[.bool s, .int .u64 (m : Nat), .int .i64 e, .int .i64 0], .agg #[.bool t, .int .u64 ((0 : Nat) : Int), .int .i64 0, .int .i64 1]] w fun r w' => r = .returned (.agg #[.bool (!(s == t)), .int .u64 ((0 : Nat) : Int), .int .i64 (0), .int .i64 2]) ∧ Below w.heap.size w w' := by
  have hz0 : ∀ w, Calls Try.prog 42 #[.agg #[.bool s, .int .u64 (m : Nat), .int .i64 e, .int .i64 0]] w fun r w' => r = .returned (.bool true) ∧ Below w.heap.size w w' := fun w => by
    have := rzero_any (.number s m e) w (by show _ < _; simp only [dM]; omega)
    have e1 : isz (.number s m e) = true := by simp [isz] <;> omega
    rw [e1] at this
    exact this
  have HZ0 := Lib.hid hz0; clear hz0
  clear h0
  go_enter Try.func33, Try.ntmps33
  go_wp2_with fail
  refine (HZ0.out _).mono ?_
  rintro x w1 ⟨rfl, hb0⟩
  have HB0 := Lib.hid hb0
  obtain ⟨hbc0, hbf0⟩ := bcell hb0
  have hs0 : w.heap.size + 3 < w1.heap.size := by have := hb0.size; (try simp at this); omega
  clear hb0
  go_wp2
  refine bodyPost_ret (v := .agg #[.bool (!(s == t)), .int .u64 ((0 : Nat) : Int), .int .i64 (0), .int .i64 2]) (by simp [results, Try.results33, go_sem, hbc0]) rfl ⟨rfl, ?_⟩
  repeat (first | (with_reducible refine Below.setCell ?_ ?ybel _; case ybel => (first | omega | (simp <;> omega))) | (with_reducible refine Below.alloc ?_ ?ybel _; case ybel => (first | omega | (simp <;> omega))) | (with_reducible refine below_drewNs ?_ _) | (with_reducible refine Below.drew ?_) | (with_reducible exact Below.refl _ _))
  refine Below.trans ?_ (HB0.out.mono (by (try simp) <;> omega))
  repeat (first | (with_reducible refine Below.setCell ?_ ?ybel _; case ybel => (first | omega | (simp <;> omega))) | (with_reducible refine Below.alloc ?_ ?ybel _; case ybel => (first | omega | (simp <;> omega))) | (with_reducible refine below_drewNs ?_ _) | (with_reducible refine Below.drew ?_) | (with_reducible exact Below.refl _ _))
theorem rtimes_ni1 (s t : Bool) (m n u v : Nat) (e f : Int) (w : World) (hm : m < 16777216) (h0 : m ≠ 0) : Calls Try.prog 33 #[.agg #[.bool s, .int .u64 (m : Nat), .int .i64 e, .int .i64 0], .agg #[.bool t, .int .u64 ((0 : Nat) : Int), .int .i64 0, .int .i64 1]] w fun r w' => r = .returned (.agg #[.bool (!(s == t)), .int .u64 ((0 : Nat) : Int), .int .i64 (0), .int .i64 1]) ∧ Below w.heap.size w w' := by
  have hz0 : ∀ w, Calls Try.prog 42 #[.agg #[.bool s, .int .u64 (m : Nat), .int .i64 e, .int .i64 0]] w fun r w' => r = .returned (.bool false) ∧ Below w.heap.size w w' := fun w => by
    have := rzero_any (.number s m e) w (by show _ < _; simp only [dM]; omega)
    have e1 : isz (.number s m e) = false := by simp [isz] <;> omega
    rw [e1] at this
    exact this
  have HZ0 := Lib.hid hz0; clear hz0
  clear h0
  go_enter Try.func33, Try.ntmps33
  go_wp2_with fail
  refine (HZ0.out _).mono ?_
  rintro x w1 ⟨rfl, hb0⟩
  have HB0 := Lib.hid hb0
  obtain ⟨hbc0, hbf0⟩ := bcell hb0
  have hs0 : w.heap.size + 3 < w1.heap.size := by have := hb0.size; (try simp at this); omega
  clear hb0
  go_wp2
  refine bodyPost_ret (v := .agg #[.bool (!(s == t)), .int .u64 ((0 : Nat) : Int), .int .i64 (0), .int .i64 1]) (by simp [results, Try.results33, go_sem, hbc0]) rfl ⟨rfl, ?_⟩
  repeat (first | (with_reducible refine Below.setCell ?_ ?ybel _; case ybel => (first | omega | (simp <;> omega))) | (with_reducible refine Below.alloc ?_ ?ybel _; case ybel => (first | omega | (simp <;> omega))) | (with_reducible refine below_drewNs ?_ _) | (with_reducible refine Below.drew ?_) | (with_reducible exact Below.refl _ _))
  refine Below.trans ?_ (HB0.out.mono (by (try simp) <;> omega))
  repeat (first | (with_reducible refine Below.setCell ?_ ?ybel _; case ybel => (first | omega | (simp <;> omega))) | (with_reducible refine Below.alloc ?_ ?ybel _; case ybel => (first | omega | (simp <;> omega))) | (with_reducible refine below_drewNs ?_ _) | (with_reducible refine Below.drew ?_) | (with_reducible exact Below.refl _ _))
theorem rtimes_nn (s t : Bool) (m n u v : Nat) (e f : Int) (w : World) (hm : m < 16777216) (hn : n < 16777216) (he : -149 ≤ e) (he2 : e ≤ 104) (hf : -149 ≤ f) (hf2 : f ≤ 104) (hx : (m : Int) * (n : Int) ≤ 18446744073709551615) (hx0 : 0 ≤ (m : Int) * (n : Int)) : Calls Try.prog 33 #[.agg #[.bool s, .int .u64 (m : Nat), .int .i64 e, .int .i64 0], .agg #[.bool t, .int .u64 (n : Nat), .int .i64 f, .int .i64 0]] w fun r w' => r = .returned (.agg #[.bool (!(s == t)), .int .u64 ((m : Int) * (n : Int)), .int .i64 (e + f), .int .i64 0]) ∧ Below w.heap.size w w' := by
  go_enter Try.func33, Try.ntmps33
  go_wp2
  refine bodyPost_ret (v := .agg #[.bool (!(s == t)), .int .u64 ((m : Int) * (n : Int)), .int .i64 (e + f), .int .i64 0]) (by simp [results, Try.results33, go_sem]) rfl ⟨rfl, ?_⟩
  repeat (first | (with_reducible refine Below.setCell ?_ ?ybel _; case ybel => (first | omega | (simp <;> omega))) | (with_reducible refine Below.alloc ?_ ?ybel _; case ybel => (first | omega | (simp <;> omega))) | (with_reducible refine below_drewNs ?_ _) | (with_reducible refine Below.drew ?_) | (with_reducible exact Below.refl _ _))
theorem rtimes_any (d d' : Datum) (w : World) (hd : Sh32 d) (hd' : Sh32 d') : Calls Try.prog 33 #[dv d, dv d'] w fun r w' => r = .returned (dv (prodD d d')) ∧ Below w.heap.size w w' := by
  rcases hd with ⟨s, u, rfl⟩ | ⟨s, rfl⟩ | ⟨s, m, e, rfl, h⟩ <;> rcases hd' with ⟨t, v, rfl⟩ | ⟨t, rfl⟩ | ⟨t, n, f, rfl, h'⟩
  · exact (rtimes_qq s t 0 0 u v 0 0 w).mono fun r w' h => by rw [h.1]; exact ⟨by cases s <;> cases t <;> rfl, h.2⟩
  · exact (rtimes_qi s t 0 0 u 0 0 0 w).mono fun r w' h => by rw [h.1]; exact ⟨by cases s <;> cases t <;> rfl, h.2⟩
  · exact (rtimes_qn s t 0 n u 0 0 f w).mono fun r w' h => by rw [h.1]; exact ⟨by cases s <;> cases t <;> rfl, h.2⟩
  · exact (rtimes_iq s t 0 0 0 v 0 0 w).mono fun r w' h => by rw [h.1]; exact ⟨by cases s <;> cases t <;> rfl, h.2⟩
  · exact (rtimes_ii s t 0 0 0 0 0 0 w).mono fun r w' h => by rw [h.1]; exact ⟨by cases s <;> cases t <;> rfl, h.2⟩
  · by_cases h0 : n = 0
    · have e1 : prodD (.infinity s) (.number t n f) = .nan (s ^^ t) 1 := by unfold prodD; rw [show (Datum.infinity s).product (.number t n f) = none from if_pos h0]; rfl
      rw [e1]
      exact (rtimes_in s t 0 n 0 0 0 f w h'.1 h0).mono fun r w' h => by rw [h.1]; exact ⟨by cases s <;> cases t <;> rfl, h.2⟩
    · have e1 : prodD (.infinity s) (.number t n f) = .infinity (s ^^ t) := by unfold prodD; rw [show (Datum.infinity s).product (.number t n f) = some (.infinity (s ^^ t)) from if_neg h0]; rfl
      rw [e1]
      exact (rtimes_in1 s t 0 n 0 0 0 f w h'.1 h0).mono fun r w' h => by rw [h.1]; exact ⟨by cases s <;> cases t <;> rfl, h.2⟩
  · exact (rtimes_nq s t m 0 0 v e 0 w).mono fun r w' h => by rw [h.1]; exact ⟨by cases s <;> cases t <;> rfl, h.2⟩
  · by_cases h0 : m = 0
    · have e1 : prodD (.number s m e) (.infinity t) = .nan (s ^^ t) 1 := by unfold prodD; rw [show (Datum.number s m e).product (.infinity t) = none from if_pos h0]; rfl
      rw [e1]
      exact (rtimes_ni s t m 0 0 0 e 0 w h.1 h0).mono fun r w' h => by rw [h.1]; exact ⟨by cases s <;> cases t <;> rfl, h.2⟩
    · have e1 : prodD (.number s m e) (.infinity t) = .infinity (t ^^ s) := by unfold prodD; rw [show (Datum.number s m e).product (.infinity t) = some (.infinity (t ^^ s)) from if_neg h0]; rfl
      rw [e1]
      exact (rtimes_ni1 s t m 0 0 0 e 0 w h.1 h0).mono fun r w' h => by rw [h.1]; exact ⟨by cases s <;> cases t <;> rfl, h.2⟩
  · have a1 := h.1; have a2 := h'.1
    have hx : m * n ≤ 16777215 * 16777215 := Nat.mul_le_mul (by omega) (by omega)
    have hx2 : (m : Int) * (n : Int) ≤ 281474943156225 := by rw [← Int.natCast_mul]; omega
    exact (rtimes_nn s t m n 0 0 e f w a1 a2 h.2.1 h.2.2 h'.2.1 h'.2.2 (by omega) (by rw [← Int.natCast_mul]; omega)).mono fun r w' h => by
      rw [h.1]
      exact ⟨by cases s <;> cases t <;> rfl, h.2⟩
end Go.Proofs.Ytbfdanbepdefnaa
