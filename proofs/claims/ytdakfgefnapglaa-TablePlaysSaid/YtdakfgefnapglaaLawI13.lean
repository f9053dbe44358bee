/-
  What the walks of the laws on page tables ask of package table: its contracts, as an interface. No proof stands here.
-/
import Derived.Test.YtdakfgefnapglaaRefP13
import Derived.Test.YtdakfgefnapglaaRefS13
import Derived.Test.YtdakfgefnapglaaTabM13
import Derived.Test.YtdakfgefnapglaaStkB07
import Derived.Test.YtdakfgefnapglaaPhysC
namespace Go.Proofs.Ytdakfgefnapglaa
open Go.RowKit
set_option linter.unusedVariables false
set_option linter.unusedSimpArgs false
attribute [local go_sem] setCell_drewN alloc_drewN

/-- tables in memory: an object at tp over a stock at sp, its blocks F, its state S, k acts behind it -/
structure TabI where
  TX : Nat → Nat → Nat → World → Nat → Nat → (Nat → Prop) → Tt → Nat → Prop
  chg : ∀ {first n fs : Nat} {w : World} {tp sp : Nat} {F : Nat → Prop} {S : Tt} {k : Nat} {w' : World} {G : Nat → Prop}, TX first n fs w tp sp F S k → Chg G w w' → (∀ j, F j → ¬ G j) → TX first n fs w' tp sp F S k
  lt : ∀ {first n fs : Nat} {w : World} {tp sp : Nat} {F : Nat → Prop} {S : Tt} {k : Nat}, TX first n fs w tp sp F S k → ∀ j, F j → j < w.heap.size
  rt : ∀ {first n fs : Nat} {w : World} {tp sp : Nat} {F : Nat → Prop} {S : Tt} {k : Nat}, TX first n fs w tp sp F S k → ∃ M, RT first fs M S
  new_yes : ∀ (first n fs : Nat) (w : World) (mp sp : Nat) (Fm Gs : Nat → Prop), MemX w mp fs 0 (fun _ => List.replicate 4096 0) Fm → StkL w sp Gs (upto first n) [] first n → (∀ j, (Fm j ∨ j = mp) → ¬ Gs j) → takE first n fs 0 = 0 →
    Calls Try.prog 8 #[.pointer (some ⟨mp, 0, none⟩), .pointer (some ⟨sp, 0, none⟩)] w fun r w' => ∃ tp F, r = .returned (.tuple #[.pointer (some ⟨tp, 0, none⟩), .int .i64 0]) ∧ TX first n fs w' tp sp F ⟨[], [], 1⟩ 0 ∧ (∀ j, F j → (Fm j ∨ j = mp) ∨ Gs j ∨ w.heap.size ≤ j) ∧ Chg (fun j => Fm j ∨ Gs j) w w'
  new_no : ∀ (first n fs : Nat) (w : World) (mp sp : Nat) (Fm Gs : Nat → Prop), MemX w mp fs 0 (fun _ => List.replicate 4096 0) Fm → StkL w sp Gs (upto first n) [] first n → (∀ j, (Fm j ∨ j = mp) → ¬ Gs j) → takE first n fs 0 ≠ 0 →
    Calls Try.prog 8 #[.pointer (some ⟨mp, 0, none⟩), .pointer (some ⟨sp, 0, none⟩)] w fun r w' => r = .returned (.tuple #[.pointer none, .int .i64 (takE first n fs 0)]) ∧ Chg (fun j => Fm j ∨ Gs j) w w'
  new_nil : ∀ (sp : Nat) (w : World), Calls Try.prog 8 #[.pointer none, .pointer (some ⟨sp, 0, none⟩)] w fun r w' => r = .returned (.tuple #[.pointer none, .int .i64 1]) ∧ Chg no w w'
  map : ∀ {first n fs : Nat} {w : World} {tp sp : Nat} {F : Nat → Prop} {S : Tt} {k : Nat} (va : Nat) (l : Int) (e : Ent), TX first n fs w tp sp F S k → k < 100 → va < 18446744073709551616 → (-9223372036854775808 ≤ l ∧ l ≤ 9223372036854775807) → (-9223372036854775808 ≤ e.rsw ∧ e.rsw ≤ 9223372036854775807) → e.ppn < 18446744073709551616 →
    Calls Try.prog 12 #[.pointer (some ⟨tp, 0, none⟩), .int .u64 va, .int .i64 l, pv e] w fun r w' => r = .returned (.int .i64 (mapT first n fs va l e S).2) ∧ ∃ F', TX first n fs w' tp sp F' (mapT first n fs va l e S).1 (k + 1) ∧ (∀ j, F' j → F j ∨ w.heap.size ≤ j) ∧ Chg F w w'
  change : ∀ {first n fs : Nat} {w : World} {tp sp : Nat} {F : Nat → Prop} {S : Tt} {k : Nat} (va : Nat) (e : Ent), TX first n fs w tp sp F S k → k < 100 → va < 18446744073709551616 → (-9223372036854775808 ≤ e.rsw ∧ e.rsw ≤ 9223372036854775807) → e.ppn < 18446744073709551616 →
    Calls Try.prog 13 #[.pointer (some ⟨tp, 0, none⟩), .int .u64 va, pv e] w fun r w' => r = .returned (.int .i64 (chgT va e S).2) ∧ ∃ F', TX first n fs w' tp sp F' (chgT va e S).1 (k + 1) ∧ (∀ j, F' j → F j ∨ w.heap.size ≤ j) ∧ Chg F w w'
  unmap : ∀ {first n fs : Nat} {w : World} {tp sp : Nat} {F : Nat → Prop} {S : Tt} {k : Nat} (va : Nat), TX first n fs w tp sp F S k → k < 100 → va < 18446744073709551616 →
    Calls Try.prog 10 #[.pointer (some ⟨tp, 0, none⟩), .int .u64 va] w fun r w' => r = .returned (.tuple #[pv (unmT va S).2.1, .int .i64 (unmT va S).2.2]) ∧ ∃ F', TX first n fs w' tp sp F' (unmT va S).1 (k + 1) ∧ (∀ j, F' j → F j ∨ w.heap.size ≤ j) ∧ Chg F w w'
  find : ∀ {first n fs : Nat} {w : World} {tp sp : Nat} {F : Nat → Prop} {S : Tt} {k : Nat} (va : Nat), TX first n fs w tp sp F S k → va < 18446744073709551616 →
    Calls Try.prog 11 #[.pointer (some ⟨tp, 0, none⟩), .int .u64 va] w fun r w' => (∃ l, r = .returned (.tuple #[lfv l, .int .i64 (if (holdP S.L va).isSome then 0 else 51)]) ∧ ∀ m, holdP S.L va = some m → l.e = m.e ∧ l.lv = m.lv) ∧ Chg no w w'
  used : ∀ {first n fs : Nat} {w : World} {tp sp : Nat} {F : Nat → Prop} {S : Tt} {k : Nat}, TX first n fs w tp sp F S k → Calls Try.prog 15 #[.pointer (some ⟨tp, 0, none⟩)] w fun r w' => r = .returned (.int .i64 (S.used : Int)) ∧ w = w'
  sused : ∀ {first n fs : Nat} {w : World} {tp sp : Nat} {F : Nat → Prop} {S : Tt} {k : Nat}, TX first n fs w tp sp F S k → Calls Try.prog 21 #[.pointer (some ⟨sp, 0, none⟩)] w fun r w' => r = .returned (.int .i64 (S.used : Int)) ∧ w = w'
  root : ∀ {first n fs : Nat} {w : World} {tp sp : Nat} {F : Nat → Prop} {S : Tt} {k : Nat}, TX first n fs w tp sp F S k → Calls Try.prog 14 #[.pointer (some ⟨tp, 0, none⟩)] w fun r w' => r = .returned (.int .i64 (first : Int)) ∧ Chg no w w'
  pages : ∀ {first n fs : Nat} {w : World} {tp sp : Nat} {F : Nat → Prop} {S : Tt} {k : Nat}, TX first n fs w tp sp F S k → S.L.length ≤ 100 → Calls Try.prog 16 #[.pointer (some ⟨tp, 0, none⟩)] w fun r w' => (∃ y, r = .returned y ∧ LiesS pgC 12 w' y (sortP S.L)) ∧ Chg no w w'
  pagesN : ∀ {first n fs : Nat} {w : World} {tp sp : Nat} {F : Nat → Prop} {S : Tt} {k : Nat}, TX first n fs w tp sp F S k → S.L.length ≤ 100 → Calls Try.prog 16 #[.pointer (some ⟨tp, 0, none⟩)] w fun r w' => (∃ y, r = .returned y ∧ LiesS pgC 12 w' y (sortP S.L) ∧ (∀ j, y.ownBlock = some j → w.heap.size ≤ j) ∧ ∀ j, y.ownBlock = some j → j < w'.heap.size) ∧ Chg no w w'
  unmap_nil : ∀ (va : Nat) (w : World), Calls Try.prog 10 #[.pointer none, .int .u64 va] w fun r w' => (∃ e, r = .returned (.tuple #[pv e, .int .i64 1])) ∧ Chg no w w'
  find_nil : ∀ (va : Nat) (w : World), Calls Try.prog 11 #[.pointer none, .int .u64 va] w fun r w' => (∃ l, r = .returned (.tuple #[lfv l, .int .i64 1])) ∧ Chg no w w'
  map_nil : ∀ (va : Nat) (l : Int) (e : Ent) (w : World), Calls Try.prog 12 #[.pointer none, .int .u64 va, .int .i64 l, pv e] w fun r w' => r = .returned (.int .i64 1) ∧ Chg no w w'
  change_nil : ∀ (va : Nat) (e : Ent) (w : World), Calls Try.prog 13 #[.pointer none, .int .u64 va, pv e] w fun r w' => r = .returned (.int .i64 1) ∧ Chg no w w'
  root_nil : ∀ (w : World), Calls Try.prog 14 #[.pointer none] w fun r w' => r = .returned (.int .i64 (-1)) ∧ Chg no w w'
  used_nil : ∀ (w : World), Calls Try.prog 15 #[.pointer none] w fun r w' => r = .returned (.int .i64 0) ∧ Chg no w w'
  pages_nil : ∀ (w : World), Calls Try.prog 16 #[.pointer none] w fun r w' => (∃ A c, r = .returned (.slice A 0 c)) ∧ Chg no w w'
/-- acts that came in -/
structure Ac where
  (kd lv : Int)
  va : Nat
  e : Ent
def acC (a : Ac) : List Value := [.int .i64 a.kd, .int .i64 a.lv, .int .u64 (a.va : Int), .bool a.e.v, .bool a.e.r, .bool a.e.w, .bool a.e.x, .bool a.e.u, .bool a.e.g, .bool a.e.a, .bool a.e.d, .int .i64 a.e.rsw, .int .u64 (a.e.ppn : Int)]
def AcOk (a : Ac) : Prop := I64 a.kd ∧ (-9223372036854775808 ≤ a.lv ∧ a.lv ≤ 9223372036854775807) ∧ a.va < 18446744073709551616 ∧ (-9223372036854775808 ≤ a.e.rsw ∧ a.e.rsw ≤ 9223372036854775807) ∧ a.e.ppn < 18446744073709551616
def IsAcs (w : World) (A : Option Addr) (n : Nat) (acts : List Ac) : Prop :=
  acts.length = n ∧ (∀ a ∈ acts, AcOk a) ∧ (0 < n → ∃ b off, A = some ⟨b, off, none⟩ ∧ ∀ i (h : i < acts.length) (j : Nat), j < 13 → w.cell? ⟨b, off + i * 13 + j, none⟩ = (acC acts[i])[j]?)
end Go.Proofs.Ytdakfgefnapglaa
