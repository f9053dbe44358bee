/-
  The pages that a space begins with: what tables make of them, one by one; a frame taken. Contracts, each says its own conditions. What pages of package space answers: a contract over the translation. It says its own conditions. The space that New makes: what ties the document's new space to the tables and the memory. No function of the program stands here. What pages of package space answers: a contract over the translation. It says its own conditions. What begin of package space answers: a contract over the translation. It says its own conditions. What begin of package space answers: a contract over the translation. It says its own conditions. What mayBe, Need and New of package space answer: contracts over the translation. Each says its own conditions. What New of package space answers: a contract over the translation. It says its own conditions.
-/
import Derived.Test.YtgnjbjbgfhjakaaGreatMgP14
import Derived.Deep.QuietTactic
import Derived.BigQuiet
import Derived.Carry
namespace Go.Proofs.YtgnjbjbgfhjakaaGreat
open Go.RowKit
set_option linter.unusedVariables false
set_option linter.unusedSimpArgs false

theorem ts_take_full {n : Nat} {w : World} {tp mp sp : Nat} {Fm Gs : Nat → Prop} {C : Nat → List Int} {S : Tt} {c : Nat} (h : TS 0 n w tp mp sp Fm Gs C S c) (he : S.used = n) :
    Calls Tryz.prog 79 #[.pointer (some ⟨sp, 0, none⟩)] w fun e w' => e = .returned (.tuple #[.int .i64 (-1), .int .i64 50]) ∧ Below w.heap.size w w' := by
  obtain ⟨ut, hW, hR⟩ := h
  have hs := hW.stk
  rw [he, Nat.sub_self] at hs
  refine (take_none sp n w hs).mono ?_
  rintro e w' ⟨rfl, k, rfl⟩
  exact ⟨rfl, Dr.below ⟨k, rfl⟩⟩
theorem ts_take_yes {n : Nat} {w : World} {tp mp sp : Nat} {Fm Gs : Nat → Prop} {C : Nat → List Int} {S : Tt} {c : Nat} (h : TS 0 n w tp mp sp Fm Gs C S c) (he : S.used ≠ n) :
    Calls Tryz.prog 79 #[.pointer (some ⟨sp, 0, none⟩)] w fun e w' => e = .returned (.tuple #[.int .i64 (S.used : Int), .int .i64 0]) ∧ TS 0 n w' tp mp sp Fm Gs C ⟨S.L, S.T, S.used + 1⟩ c ∧ Chg Gs w w' := by
  obtain ⟨ut, hW, hR⟩ := h
  have hle := hW.le
  have hs := hW.stk
  rw [upto_cons _ _ (by omega)] at hs
  refine (take_some sp n _ w hs).mono ?_
  rintro e w' ⟨rfl, hk, hc⟩
  have hsn : upto ((0 : Nat) : Int) S.used ++ [((0 + S.used : Nat) : Int)] = upto ((0 : Nat) : Int) (S.used + 1) := by
    rw [upto_snoc]; congr 1
  have hun : upto (((0 + S.used : Nat) : Int) + 1) (n - S.used - 1) = upto ((0 + (S.used + 1) : Nat) : Int) (n - (S.used + 1)) := by
    congr 1
  rw [hsn, hun] at hk
  exact ⟨by rw [Nat.zero_add], ⟨ut, ⟨hW.blk.chg hc hW.st, Nat.le_succ_of_le hW.utle, hW.mem.chg hc hW.ms (fun k hk => hW.sm k hk), hk, by show S.used + 1 ≤ n; omega, hW.sm, hW.mt, hW.st, hW.ms, hW.tm⟩, hR.more (Nat.le_succ _) (by omega)⟩, hc⟩
/-- pages side by side -/
def pgsN (b m f k : Nat) : List Pg := (List.range k).map (fun i => (⟨b + 4096 * i, 0, { entM m with ppn := f + i }⟩ : Pg))
theorem pgsN_len (b m f k : Nat) : (pgsN b m f k).length = k := by unfold pgsN; rw [List.length_map, List.length_range]
theorem pgsN_succ (b m f k : Nat) : pgsN b m f (k + 1) = pgsN b m f k ++ [⟨b + 4096 * k, 0, { entM m with ppn := f + k }⟩] := by unfold pgsN; rw [List.range_succ, List.map_append]; rfl
theorem pgsN_mem {b m f k : Nat} {p : Pg} (h : p ∈ pgsN b m f k) : ∃ i, i < k ∧ p = ⟨b + 4096 * i, 0, { entM m with ppn := f + i }⟩ := by
  unfold pgsN at h
  obtain ⟨i, hi, rfl⟩ := List.mem_map.1 h
  exact ⟨i, List.mem_range.1 hi, rfl⟩
/-- the tables of code and own pages -/
def TT : List Tb := [⟨1, 0, 1⟩, ⟨0, 0, 2⟩]
/-- the tables while pages come -/
def stN (z : Bool) (L0 : List Pg) (b m f k : Nat) : Tt := ⟨L0 ++ pgsN b m f k, if z = true ∧ k = 0 then [] else TT, if z = true ∧ k = 0 then 1 else f + k⟩
theorem bas_low (va : Nat) (h : va < 2097152) : bas va 2 = 0 ∧ bas va 1 = 0 := by
  unfold bas
  refine ⟨?_, ?_⟩
  · rw [Nat.div_eq_of_lt (by simp; omega), Nat.zero_mul]
  · rw [Nat.div_eq_of_lt (by simp; omega), Nat.zero_mul]
theorem entM_may {m f : Nat} (h : m = 2 ∨ m = 3 ∨ m = 6) (hf : f < 17592186044416) : mayE { entM m with ppn := f } 0 = true ∧ (entM m).rsw = 0 := by
  refine ⟨(ent_may (entM_p f h) hf).1, ?_⟩
  rcases h with rfl | rfl | rfl <;> rfl
section
variable {n b m f k : Nat} {L0 : List Pg} {z : Bool}
theorem pg_none {L : List Pg} {va : Nat} (hb : va % 4096 = 0) (h : ∀ p ∈ L, p.va ≠ va) : pg L va 0 = none := by
  cases hq : pg L va 0 with
  | none => rfl
  | some p =>
    obtain ⟨h1, _, h3⟩ := pg_mem hq
    exact absurd (h3.trans (by rw [bas_zero]; omega)) (h p h1)
theorem own_ne (hb0 : b % 4096 = 0) (h0 : ∀ p ∈ L0, p.lv = 0 ∧ p.va ≠ b + 4096 * k) : (∀ p ∈ L0 ++ pgsN b m f k, p.va ≠ b + 4096 * k) ∧ Lv0 (L0 ++ pgsN b m f k) := by
  refine ⟨fun p hp => ?_, fun p hp => ?_⟩
  · rcases List.mem_append.1 hp with hp | hp
    · exact (h0 p hp).2
    · obtain ⟨i, hi, rfl⟩ := pgsN_mem hp
      show b + 4096 * i ≠ b + 4096 * k
      omega
  · rcases List.mem_append.1 hp with hp | hp
    · exact (h0 p hp).1
    · obtain ⟨i, hi, rfl⟩ := pgsN_mem hp
      rfl
/-- a page ahead of its frame -/
theorem step_map {M : Nat → Nat} (hm : m = 2 ∨ m = 3 ∨ m = 6) (hb : b + 4096 * k < 2097152) (hb0 : b % 4096 = 0) (h0 : ∀ p ∈ L0, p.lv = 0 ∧ p.va ≠ b + 4096 * k) (hz : z = true → L0 = [] ∧ f = 3) (hR : RT 0 n M (stN z L0 b m f k)) :
    (¬ (z = true ∧ k = 0 ∧ n < 3) → mapT 0 n (b + 4096 * k) 0 (entM m) (stN z L0 b m f k) = (⟨L0 ++ pgsN b m f k ++ [⟨b + 4096 * k, 0, entM m⟩], TT, f + k⟩, 0)) ∧ ((z = true ∧ k = 0 ∧ n < 3) → (mapT 0 n (b + 4096 * k) 0 (entM m) (stN z L0 b m f k)).2 = 50) := by
  have hva : (b + 4096 * k) % 4096 = 0 := by omega
  have hc : canN (b + 4096 * k) = true := low_can (by omega)
  obtain ⟨a1, a2⟩ := own_ne (m := m) (f := f) hb0 h0
  have hpg := pg_none hva a1
  obtain ⟨b2, b1⟩ := bas_low _ hb
  have b0 : bas (b + 4096 * k) 0 = b + 4096 * k := by rw [bas_zero]; omega
  have hmay : mayE (entM m) 0 = true := by
    have := (entM_may (f := 0) hm (by omega)).1
    rcases hm with rfl | rfl | rfl <;> exact this
  by_cases hk : z = true ∧ k = 0
  · obtain ⟨hz1, rfl⟩ := hk
    obtain ⟨rfl, rfl⟩ := hz hz1
    have hst : stN z [] b m 3 0 = ⟨[], [], 1⟩ := by unfold stN; rw [if_pos ⟨hz1, rfl⟩, if_pos ⟨hz1, rfl⟩]; rfl
    rw [hst] at hR ⊢
    have h1n := hR.fits
    have h1n : 1 ≤ n := h1n
    refine ⟨fun hno => ?_, fun hyes => ?_⟩
    · have hn3 : 3 ≤ n := by
        rcases Nat.lt_or_ge n 3 with h | h
        · exact absurd ⟨hz1, rfl, h⟩ hno
        · exact h
      rw [map_none hR (fun p hp => by cases hp) hc hmay rfl rfl (show (1 : Nat) + 1 < n by omega), b0, b1, b2]
      rfl
    · rcases (by omega : n = 1 ∨ n = 2) with rfl | rfl
      · rw [map_none_full (S := ⟨[], [], 1⟩) (fun p hp => by cases hp) hc hmay rfl rfl]
      · rw [map_none_one hR (fun p hp => by cases hp) hc hmay rfl rfl]
  · have hst : stN z L0 b m f k = ⟨L0 ++ pgsN b m f k, TT, f + k⟩ := by unfold stN; rw [if_neg hk, if_neg hk]
    rw [hst]
    refine ⟨fun _ => ?_, fun hyes => absurd ⟨hyes.1, hyes.2.1⟩ hk⟩
    have t1 : tabI TT (b + 4096 * k) 1 = some ⟨1, 0, 1⟩ := by
      have : isT (b + 4096 * k) 1 ⟨1, 0, 1⟩ = true := isT_iff.2 ⟨rfl, b2.symm⟩
      unfold tabI TT
      rw [List.find?_cons, this]
    have t0 : tabI TT (b + 4096 * k) 0 = some ⟨0, 0, 2⟩ := by
      have h1 : isT (b + 4096 * k) 0 ⟨1, 0, 1⟩ = false := by unfold isT; rfl
      have h2 : isT (b + 4096 * k) 0 ⟨0, 0, 2⟩ = true := isT_iff.2 ⟨rfl, b1.symm⟩
      unfold tabI TT
      rw [List.find?_cons, h1]
      dsimp only
      rw [List.find?_cons, h2]
    rw [map_both (S := ⟨L0 ++ pgsN b m f k, TT, f + k⟩) a2 hc hmay hpg t1 t0, b0]
/-- its entry with the frame -/
theorem step_chg (hm : m = 2 ∨ m = 3 ∨ m = 6) (hb : b + 4096 * k < 2097152) (hb0 : b % 4096 = 0) (h0 : ∀ p ∈ L0, p.lv = 0 ∧ p.va ≠ b + 4096 * k) (hf : f + k < 1048576) :
    chgT (b + 4096 * k) { entM m with ppn := f + k } ⟨L0 ++ pgsN b m f k ++ [⟨b + 4096 * k, 0, entM m⟩], TT, f + k + 1⟩ = (stN z L0 b m f (k + 1), 0) := by
  have hva : (b + 4096 * k) % 4096 = 0 := by omega
  have hc : canN (b + 4096 * k) = true := low_can (by omega)
  obtain ⟨a1, a2⟩ := own_ne (m := m) (f := f) hb0 h0
  have hpg := pg_none hva a1
  have b0 : bas (b + 4096 * k) 0 = b + 4096 * k := by rw [bas_zero]; omega
  obtain ⟨hmay, _⟩ := entM_may (f := f + k) hm (by omega)
  have hst : stN z L0 b m f (k + 1) = ⟨L0 ++ pgsN b m f (k + 1), TT, f + (k + 1)⟩ := by unfold stN; rw [if_neg (fun h => by have := h.2; omega), if_neg (fun h => by have := h.2; omega)]
  rw [hst, pgsN_succ, ← List.append_assoc]
  generalize L0 ++ pgsN b m f k = A at *
  have hi : pagI (A ++ [⟨b + 4096 * k, 0, entM m⟩]) (b + 4096 * k) 0 = some A.length := idx_new (idx_none.2 hpg) (isP_iff.2 ⟨rfl, b0.symm⟩)
  have hh : hold (A ++ [⟨b + 4096 * k, 0, entM m⟩]) (b + 4096 * k) = some A.length := by unfold hold; rw [if_pos hc, hi]; rfl
  have he : entOf (A ++ [⟨b + 4096 * k, 0, entM m⟩]) A.length = ⟨b + 4096 * k, 0, entM m⟩ := by
    rw [entOf_at (by rw [List.length_append]; exact Nat.lt_succ_self _)]
    simp
  unfold chgT
  dsimp only
  rw [hh]
  dsimp only
  rw [he]
  refine (if_pos (show mayE _ _ = true from hmay)).trans ?_
  have hs : setE (A ++ [⟨b + 4096 * k, 0, entM m⟩]) A.length { entM m with ppn := f + k } = A ++ [⟨b + 4096 * k, 0, { entM m with ppn := f + k }⟩] := by
    unfold setE
    rw [he]
    simp
  rw [hs]
  rfl
end
end Go.Proofs.YtgnjbjbgfhjakaaGreat

namespace Go.Proofs.YtgnjbjbgfhjakaaGreat
open Go.RowKit
set_option linter.unusedVariables false
set_option linter.unusedSimpArgs false
attribute [local go_sem] setCell_drewN alloc_drewN

theorem nx_row {w wr : World} {tp mp : Nat} {Fm Gs Fm' Gs' : Nat → Prop} (h : Nx w wr tp mp Fm Gs Fm' Gs') {g : Nat} (hg : ¬ FpW tp mp Fm Gs g) (hl : g < w.heap.size) : ¬ FpW tp mp Fm' Gs' g := fun e => (h.1 g e).elim hg (by omega)
theorem zero_keep {C C' : Nat → List Int} {T : List Tb} (h : Keep 0 T C C') (hT : T = TT ∨ T = [] ∨ ∀ f, Tf 0 T f → f < 3) (hC : ∀ g, 3 ≤ g → C g = zP) : ∀ g, 3 ≤ g → C' g = zP := fun g hg => by
  rw [h g ?_]
  · exact hC g hg
  · intro ht
    rcases hT with rfl | rfl | hT
    · rcases ht with e | ⟨x, hx, e⟩
      · omega
      · unfold TT at hx
        rcases List.mem_cons.1 hx with rfl | hx
        · have e : (1 : Nat) = g := e; omega
        · rcases List.mem_singleton.1 hx with rfl
          have e : (2 : Nat) = g := e; omega
    · rcases ht with e | ⟨x, hx, e⟩
      · omega
      · cases hx
    · have := hT g ht; omega
theorem stN_T {z : Bool} {L0 : List Pg} {b m f k : Nat} : (stN z L0 b m f k).T = TT ∨ (stN z L0 b m f k).T = [] := by
  unfold stN
  dsimp only
  split
  · exact .inr rfl
  · exact .inl rfl
/-- what a loop over pages keeps -/
def PgR14 (n : Nat) (w wr : World) (tp mp sp xp : Nat) (Fm Gs : Nat → Prop) (z : Bool) (L0 : List Pg) (b m f k c : Nat) (v : Value) : Prop :=
  ∃ Fm' Gs' C', TS 0 n wr tp mp sp Fm' Gs' C' (stN z L0 b m f k) (c + 10 * k) ∧ Nx w wr tp mp Fm Gs Fm' Gs' ∧ (∀ g, 3 ≤ g → C' g = zP) ∧ wr.ownsRow w.heap.size 3 1 v k ((upto (f : Int) k).map (Value.int .i64)) ∧ (∀ g, v.ownBlock = some g → ¬ FpW tp mp Fm' Gs' g ∧ g < wr.heap.size)
/-- .. behind the mapping of one more page, and behind its frame -/
def PgM14 (n : Nat) (w wr : World) (tp mp sp xp : Nat) (Fm Gs : Nat → Prop) (S : Tt) (b m f k c : Nat) (v : Value) : Prop :=
  ∃ Fm' Gs' C', TS 0 n wr tp mp sp Fm' Gs' C' S (c + 10 * k + 5) ∧ Nx w wr tp mp Fm Gs Fm' Gs' ∧ (∀ g, 3 ≤ g → C' g = zP) ∧ wr.ownsRow w.heap.size 3 1 v k ((upto (f : Int) k).map (Value.int .i64)) ∧ (∀ g, v.ownBlock = some g → ¬ FpW tp mp Fm' Gs' g ∧ g < wr.heap.size)
section
variable {n : Nat} {w wr w1 : World} {tp mp sp xp : Nat} {Fm Gs : Nat → Prop} {z : Bool} {L0 : List Pg} {b m f k c K : Nat} {v : Value} {S : Tt}
theorem PgR14.below (h : PgR14 n w wr tp mp sp xp Fm Gs z L0 b m f k c v) (hb : Below wr.heap.size wr w1) : PgR14 n w w1 tp mp sp xp Fm Gs z L0 b m f k c v := by
  obtain ⟨Fm', Gs', C', h1, h2, h3, h4, h5⟩ := h
  exact ⟨Fm', Gs', C', h1.below hb, h2.trans (Nx.below hb), h3, own_chgF h4 (Chg.of_below (F := no) hb) (fun _ _ h => h), fun g hg => ⟨(h5 g hg).1, Nat.lt_of_lt_of_le (h5 g hg).2 hb.size⟩⟩
theorem PgM14.below (h : PgM14 n w wr tp mp sp xp Fm Gs S b m f k c v) (hb : Below wr.heap.size wr w1) : PgM14 n w w1 tp mp sp xp Fm Gs S b m f k c v := by
  obtain ⟨Fm', Gs', C', h1, h2, h3, h4, h5⟩ := h
  exact ⟨Fm', Gs', C', h1.below hb, h2.trans (Nx.below hb), h3, own_chgF h4 (Chg.of_below (F := no) hb) (fun _ _ h => h), fun g hg => ⟨(h5 g hg).1, Nat.lt_of_lt_of_le (h5 g hg).2 hb.size⟩⟩
theorem PgR14.chg (h : PgR14 n w wr tp mp sp xp Fm Gs z L0 b m f k c v) : Chg (FpW tp mp Fm Gs) w wr := by
  obtain ⟨Fm', Gs', C', h1, h2, h3, h4, h5⟩ := h
  exact h2.2
theorem PgM14.chg (h : PgM14 n w wr tp mp sp xp Fm Gs S b m f k c v) : Chg (FpW tp mp Fm Gs) w wr := by
  obtain ⟨Fm', Gs', C', h1, h2, h3, h4, h5⟩ := h
  exact h2.2
theorem pg_map (h : PgR14 n w wr tp mp sp xp Fm Gs z L0 b m f k c v) (hm : m = 2 ∨ m = 3 ∨ m = 6) (hb : b + 4096 * k < 2097152) (hb0 : b % 4096 = 0) (h0 : ∀ p ∈ L0, p.lv = 0 ∧ p.va ≠ b + 4096 * k) (hz : z = true → L0 = [] ∧ f = 3) (hk : k ≤ 16) (hc : c ≤ 200) :
    Calls Tryz.prog 75 #[.pointer (some ⟨tp, 0, none⟩), .int .u64 ((b + 4096 * k : Nat) : Int), .int .i64 0, pv (entM m)] wr fun r w' => Chg (FpW tp mp Fm Gs) w w' ∧
      ((r = .returned (.int .i64 0) ∧ PgM14 n w w' tp mp sp xp Fm Gs ⟨L0 ++ pgsN b m f k ++ [⟨b + 4096 * k, 0, entM m⟩], TT, f + k⟩ b m f k c v) ∨ (r = .returned (.int .i64 50) ∧ f + k < n + 1 ∧ n < f + k + 1 ∨ r = .returned (.int .i64 50) ∧ f = 3 ∧ n < 3)) := by
  obtain ⟨Fm', Gs', C', h1, h2, h3, h4, h5⟩ := h
  have hR : RT 0 n (Mw C') (stN z L0 b m f k) := by obtain ⟨ut, _, hR⟩ := h1; exact hR
  obtain ⟨s1, s2⟩ := step_map hm hb hb0 h0 hz hR
  have hr : (entM m).rsw = 0 := (entM_may (f := 0) hm (by omega)).2
  have hp : (entM m).ppn = 0 := by rcases hm with rfl | rfl | rfl <;> rfl
  refine (map13_any (b + 4096 * k) 0 (entM m) h1 (by omega) (by omega) (by rw [hr]; omega) (by rw [hp]; omega) (by omega)).mono ?_
  rintro r w' ⟨rfl, F2, G2, C2, k1, k2, k3, k4⟩
  have hN := h2.trans k2
  refine ⟨hN.2, ?_⟩
  by_cases hno : z = true ∧ k = 0 ∧ n < 3
  · rw [s2 hno]
    exact .inr (.inr ⟨rfl, (hz hno.1).2, hno.2.2⟩)
  · have e := s1 hno
    rw [e] at k1 k3 k4 ⊢
    refine .inl ⟨rfl, F2, G2, C2, k1, hN, zero_keep k3 (.inl rfl) h3, own_chgF h4 k2.2 (fun g hg => (h5 g hg).1), fun g hg => ⟨nx_row k2 (h5 g hg).1 (h5 g hg).2, Nat.lt_of_lt_of_le (h5 g hg).2 k2.2.size⟩⟩
theorem pg_take (h : PgM14 n w wr tp mp sp xp Fm Gs ⟨S.L, S.T, f + k⟩ b m f k c v) :
    Calls Tryz.prog 79 #[.pointer (some ⟨sp, 0, none⟩)] wr fun r w' => Chg (FpW tp mp Fm Gs) w w' ∧ ((r = .returned (.tuple #[.int .i64 ((f + k : Nat) : Int), .int .i64 0]) ∧ f + k < n ∧ PgM14 n w w' tp mp sp xp Fm Gs ⟨S.L, S.T, f + k + 1⟩ b m f k c v) ∨ (r = .returned (.tuple #[.int .i64 (-1), .int .i64 50]) ∧ n = f + k)) := by
  obtain ⟨Fm', Gs', C', h1, h2, h3, h4, h5⟩ := h
  have hle : f + k ≤ n := by obtain ⟨ut, hW, hR⟩ := h1; exact hR.fits
  by_cases he : f + k = n
  · refine (ts_take_full h1 he).mono ?_
    rintro r w' ⟨rfl, hb⟩
    exact ⟨h2.2.trans (Chg.of_below hb), .inr ⟨rfl, he.symm⟩⟩
  · refine (ts_take_yes h1 he).mono ?_
    rintro r w' ⟨rfl, k1, kc⟩
    have k2 : Nx wr w' tp mp Fm' Gs' Fm' Gs' := Nx.stk (fun j hj => .inl hj) kc
    have hN := h2.trans k2
    exact ⟨hN.2, .inl ⟨rfl, by omega, Fm', Gs', C', k1, hN, h3, own_chgF h4 k2.2 (fun g hg => (h5 g hg).1), fun g hg => ⟨(h5 g hg).1, Nat.lt_of_lt_of_le (h5 g hg).2 kc.size⟩⟩⟩
theorem pg_chg (h : PgM14 n w wr tp mp sp xp Fm Gs ⟨L0 ++ pgsN b m f k ++ [⟨b + 4096 * k, 0, entM m⟩], TT, f + k + 1⟩ b m f k c v) (hm : m = 2 ∨ m = 3 ∨ m = 6) (hb : b + 4096 * k < 2097152) (hb0 : b % 4096 = 0) (h0 : ∀ p ∈ L0, p.lv = 0 ∧ p.va ≠ b + 4096 * k) (hk : k ≤ 16) (hc : c ≤ 200) :
    Calls Tryz.prog 76 #[.pointer (some ⟨tp, 0, none⟩), .int .u64 ((b + 4096 * k : Nat) : Int), pv { entM m with ppn := f + k }] wr fun r w' => r = .returned (.int .i64 0) ∧ Chg (FpW tp mp Fm Gs) w w' ∧
      ∃ Fm' Gs' C', TS 0 n w' tp mp sp Fm' Gs' C' (stN z L0 b m f (k + 1)) (c + 10 * (k + 1)) ∧ Nx w w' tp mp Fm Gs Fm' Gs' ∧ (∀ g, 3 ≤ g → C' g = zP) ∧ w'.ownsRow w.heap.size 3 1 v k ((upto (f : Int) k).map (Value.int .i64)) ∧ (∀ g, v.ownBlock = some g → ¬ FpW tp mp Fm' Gs' g ∧ g < w'.heap.size) := by
  obtain ⟨Fm', Gs', C', h1, h2, h3, h4, h5⟩ := h
  have hfit : f + k + 1 ≤ n ∧ n ≤ 1048576 := by obtain ⟨ut, hW, hR⟩ := h1; exact ⟨hR.fits, hR.most⟩
  have hr := (entM_may (f := f + k) hm (by omega)).2
  have e := step_chg (z := z) (L0 := L0) (f := f) hm hb hb0 h0 (by omega)
  refine (change13_any (b + 4096 * k) { entM m with ppn := f + k } h1 (by omega) (by show _ ≤ (entM m).rsw ∧ (entM m).rsw ≤ _; rw [hr]; omega) (by show f + k < _; omega) (by omega)).mono ?_
  rintro r w' ⟨rfl, F2, G2, C2, k1, k2, k3, k4⟩
  rw [e] at k1 k3 ⊢
  have hN := h2.trans k2
  have hst := stN_T (z := z) (L0 := L0) (b := b) (m := m) (f := f) (k := k + 1)
  exact ⟨rfl, hN.2, F2, G2, C2, k1, hN, zero_keep k3 (hst.imp id .inl) h3, own_chgF h4 k2.2 (fun g hg => (h5 g hg).1), fun g hg => ⟨nx_row k2 (h5 g hg).1 (h5 g hg).2, Nat.lt_of_lt_of_le (h5 g hg).2 k2.2.size⟩⟩
end
end Go.Proofs.YtgnjbjbgfhjakaaGreat

namespace Go.Proofs.YtgnjbjbgfhjakaaGreat
open Go.RowKit
set_option linter.unusedVariables false
set_option linter.unusedSimpArgs false

theorem pg_pgsN {b m f : Nat} (hb0 : b % 4096 = 0) (va : Nat) : ∀ k, pg (pgsN b m f k) va 0 = if b / 4096 ≤ va / 4096 ∧ va / 4096 < b / 4096 + k then some ⟨bas va 0, 0, { entM m with ppn := f + (va / 4096 - b / 4096) }⟩ else none
  | 0 => by rw [if_neg (by omega)]; rfl
  | k + 1 => by
    rw [pgsN_succ]
    by_cases hk : va / 4096 = b / 4096 + k
    · have hno : pg (pgsN b m f k) va 0 = none := by rw [pg_pgsN hb0 va k, if_neg (by omega)]
      have hx : b + 4096 * k = bas va 0 := by rw [bas_zero]; omega
      rw [if_pos (by omega)]
      have : pg (pgsN b m f k ++ [⟨b + 4096 * k, 0, { entM m with ppn := f + k }⟩]) va 0 = some ⟨b + 4096 * k, 0, { entM m with ppn := f + k }⟩ := find_new hno (isP_iff.2 ⟨rfl, hx⟩)
      rw [this, hx, show va / 4096 - b / 4096 = k from by omega]
    · have hno : isP va 0 (⟨b + 4096 * k, 0, { entM m with ppn := f + k }⟩ : Pg) = false := by
        cases hq : isP va 0 (⟨b + 4096 * k, 0, { entM m with ppn := f + k }⟩ : Pg) with
        | false => rfl
        | true =>
          have h2 := (isP_iff.1 hq).2
          have h2 : b + 4096 * k = bas va 0 := h2
          rw [bas_zero] at h2
          omega
      have : pg (pgsN b m f k ++ [⟨b + 4096 * k, 0, { entM m with ppn := f + k }⟩]) va 0 = pg (pgsN b m f k) va 0 := find_app hno
      rw [this, pg_pgsN hb0 va k]
      by_cases h : b / 4096 ≤ va / 4096 ∧ va / 4096 < b / 4096 + k
      · rw [if_pos h, if_pos (by omega)]
      · rw [if_neg h, if_neg (by omega)]
theorem pg_app (A B : List Pg) (va : Nat) : pg (A ++ B) va 0 = (pg A va 0).or (pg B va 0) := List.find?_append
/-- the frames of a new space's pages -/
def frN (c p : Nat) (v : Nat) : Option Nat := if 16 ≤ v ∧ v < 16 + c then some (3 + (v - 16)) else if 32 ≤ v ∧ v < 32 + p then some (3 + c + (v - 32)) else none
theorem frL_upto {fr : Nat → Option Nat} {b f : Nat} : ∀ k, (∀ i, i < k → fr (b + i) = some (f + i)) → frL fr b k = upto (f : Int) k
  | 0, _ => rfl
  | k + 1, h => by
    have ih := frL_upto k (fun i hi => h i (by omega))
    rw [upto_snoc, ← ih]
    unfold frL
    rw [List.range_succ, List.map_append, List.map_cons, List.map_nil, h k (by omega)]
    rfl
theorem drop_take_rep {c i : Nat} (h : i < c) : ((List.replicate (4096 * c) (0 : Int)).drop (4096 * i)).take 4096 = zP := by
  unfold zP
  rw [List.drop_replicate, List.take_replicate]
  congr 1
  omega
theorem shN_new (c p k n q : Nat) : shN (newS c p k n) q = ⟨0, false, []⟩ := by
  show (List.replicate k (⟨0, false, []⟩ : Sh)).getD q _ = _
  rw [List.getD_eq_getElem?_getD, List.getElem?_replicate]
  split <;> rfl
theorem count_new (c p k n : Nat) : countS (newS c p k n) = 0 := by
  unfold countS newS
  dsimp only
  induction k with
  | zero => rfl
  | succ k ih => rw [List.replicate_succ, List.filter_cons, if_neg (by decide)]; exact ih
theorem stN_turn {nc : Nat} (h : 1 ≤ nc) : stN true [] 65536 3 3 nc = stN false (pgsN 65536 3 3 nc) 131072 6 (3 + nc) 0 := by
  unfold stN
  have e : ¬ (true = true ∧ nc = 0) := fun h => by have := h.2; omega
  have e2 : ¬ (false = true ∧ 0 = 0) := fun h => by cases h.1
  rw [if_neg e, if_neg e, if_neg e2, if_neg e2]
  have : pgsN 131072 6 (3 + nc) 0 = [] := rfl
  rw [this, List.append_nil, List.nil_append]
  rfl
theorem tie_new {nc np ns n : Nat} {C : Nat → List Int} (h1 : 1 ≤ nc ∧ nc ≤ 16) (h2 : np ≤ 16) (h3 : ns ≤ 65536) (hn : 3 + nc + np ≤ n) (hC : ∀ g, 3 ≤ g → C g = zP) : Tie n (newS nc np ns n) (stN false (pgsN 65536 3 3 nc) 131072 6 (3 + nc) np) C (frN nc np) := by
  have hst : stN false (pgsN 65536 3 3 nc) 131072 6 (3 + nc) np = ⟨pgsN 65536 3 3 nc ++ pgsN 131072 6 (3 + nc) np, TT, 3 + nc + np⟩ := by
    unfold stN
    have e2 : ¬ (false = true ∧ np = 0) := fun h => by cases h.1
    rw [if_neg e2, if_neg e2]
  rw [hst]
  have hlt : ∀ v f, frN nc np v = some f → 3 ≤ f ∧ f < 3 + nc + np := fun v f hf => by
    unfold frN at hf
    split at hf
    · have := Option.some.inj hf; omega
    · split at hf
      · have := Option.some.inj hf; omega
      · cases hf
  have iC : ∀ v, isC (newS nc np ns n) v ↔ (16 ≤ v ∧ v < 16 + nc) := fun v => Iff.rfl
  have iO : ∀ v, isO (newS nc np ns n) v ↔ (32 ≤ v ∧ v < 32 + np) := fun v => Iff.rfl
  refine ⟨Wf.new h1 h2 h3, ?_, fun v => ?_, fun v f hf => ⟨(hlt v f hf).2, ?_⟩, fun v v' f hv hv' => ?_, fun v f hf => ?_, fun f hf => hC f (by have hf : 3 + nc + np ≤ f := hf; omega), fun va hc => ?_, ?_, fun k hk => ?_⟩
  · show 3 + nc + np + (n - 3 - nc - np) = n
    omega
  · unfold frN hasP
    by_cases c1 : 16 ≤ v ∧ v < 16 + nc
    · rw [if_pos c1, if_pos ((iC v).2 c1)]; rfl
    · rw [if_neg c1, if_neg (fun h => c1 ((iC v).1 h))]
      by_cases c2 : 32 ≤ v ∧ v < 32 + np
      · rw [if_pos c2, if_pos ((iO v).2 c2)]; rfl
      · rw [if_neg c2, if_neg (fun h => c2 ((iO v).1 h)), shN_new]
        split <;> rfl
  · have := (hlt v f hf).1
    rintro (e | ⟨x, hx, e⟩)
    · omega
    · unfold TT at hx
      rcases List.mem_cons.1 hx with rfl | hx
      · have e : (1 : Nat) = f := e; omega
      · rcases List.mem_singleton.1 hx with rfl
        have e : (2 : Nat) = f := e; omega
  · unfold frN at hv hv'
    split at hv <;> split at hv'
    · have := Option.some.inj hv; have := Option.some.inj hv'; omega
    · split at hv'
      · have := Option.some.inj hv; have := Option.some.inj hv'; omega
      · cases hv'
    · split at hv
      · have := Option.some.inj hv; have := Option.some.inj hv'; omega
      · cases hv
    · split at hv <;> split at hv'
      · have := Option.some.inj hv; have := Option.some.inj hv'; omega
      · cases hv'
      · cases hv
      · cases hv
  · rw [hC f (hlt v f hf).1]
    unfold frN at hf
    unfold pageP
    by_cases c1 : 16 ≤ v ∧ v < 16 + nc
    · rw [if_pos ((iC v).2 c1)]
      exact (drop_take_rep (by omega)).symm
    · rw [if_neg c1] at hf
      rw [if_neg (fun h => c1 ((iC v).1 h))]
      by_cases c2 : 32 ≤ v ∧ v < 32 + np
      · rw [if_pos ((iO v).2 c2)]
        exact (drop_take_rep (by omega)).symm
      · rw [if_neg c2] at hf; cases hf
  · show (pg (pgsN 65536 3 3 nc ++ pgsN 131072 6 (3 + nc) np) va 0).map Pg.e = _
    rw [pg_app, pg_pgsN (by decide), pg_pgsN (by decide)]
    generalize va / 4096 = v
    unfold frN mayP
    have e1 : (65536 : Nat) / 4096 = 16 := rfl
    have e2 : (131072 : Nat) / 4096 = 32 := rfl
    rw [e1, e2]
    by_cases c1 : 16 ≤ v ∧ v < 16 + nc
    · rw [if_pos c1, if_pos c1, if_pos ((iC v).2 c1)]
      rfl
    · rw [if_neg c1, if_neg c1, if_neg (fun h => c1 ((iC v).1 h))]
      by_cases c2 : 32 ≤ v ∧ v < 32 + np
      · rw [if_pos c2, if_pos c2, if_pos ((iO v).2 c2)]
        rfl
      · rw [if_neg c2, if_neg c2]
        rfl
  · have : tabI TT 1073741824 1 = none := by decide
    show false = (tabI TT 1073741824 1).isSome
    rw [this]; rfl
  · have hb : bas (1073741824 + 2097152 * k) 1 = 1073741824 + 2097152 * k := by unfold bas; simp; omega
    have : tabI TT (1073741824 + 2097152 * k) 0 = none := by
      have i1 : isT (1073741824 + 2097152 * k) 0 ⟨1, 0, 1⟩ = false := rfl
      have i2 : isT (1073741824 + 2097152 * k) 0 ⟨0, 0, 2⟩ = false := by
        cases hq : isT (1073741824 + 2097152 * k) 0 ⟨0, 0, 2⟩ with
        | false => rfl
        | true =>
          have h2 := (isT_iff.1 hq).2
          have h2 : (0 : Nat) = bas (1073741824 + 2097152 * k) 1 := h2
          rw [hb] at h2; omega
      unfold tabI TT
      rw [List.find?_cons, i1]
      dsimp only
      rw [List.find?_cons, i2]
      rfl
    show (List.replicate _ false).getD k false = (tabI TT (1073741824 + 2097152 * k) 0).isSome
    rw [this, List.getD_eq_getElem?_getD, List.getElem?_replicate]
    split <;> rfl
end Go.Proofs.YtgnjbjbgfhjakaaGreat

namespace Go.Proofs.YtgnjbjbgfhjakaaGreat
open Go.RowKit
set_option linter.unusedVariables false
set_option linter.unusedSimpArgs false
attribute [local go_sem] setCell_drewN alloc_drewN

set_option maxHeartbeats 8000000 in
theorem spages_any {n : Nat} {w : World} {tp mp sp xp : Nat} {Fm Gs : Nat → Prop} {C : Nat → List Int} {z : Bool} {L0 : List Pg} {b m f kn c : Nat} (h : TS 0 n w tp mp sp Fm Gs C (stN z L0 b m f 0) c) (hC : ∀ g, 3 ≤ g → C g = zP) (hm : m = 2 ∨ m = 3 ∨ m = 6) (hkn : kn ≤ 16) (hK1 : z = true → 1 ≤ kn) (hb : b + 65536 < 2097152) (hb0 : b % 4096 = 0)
    (h0 : ∀ k, k < kn → ∀ p ∈ L0, p.lv = 0 ∧ p.va ≠ b + 4096 * k) (hz : z = true → L0 = [] ∧ f = 3) (hc : c ≤ 200) (c5 : w.cell? ⟨xp, 5, none⟩ = some (.pointer (some ⟨tp, 0, none⟩))) (c4 : w.cell? ⟨xp, 4, none⟩ = some (.pointer (some ⟨sp, 0, none⟩))) (hx : ¬ FpW tp mp Fm Gs xp) :
    Calls Tryz.prog 66 #[.pointer (some ⟨xp, 0, none⟩), .int .u64 (b : Int), .int .i64 (kn : Int), .string (strM m)] w fun r w' => Chg (FpW tp mp Fm Gs) w w' ∧ ((f + kn ≤ n ∧ ∃ v, r = .returned (.tuple #[v, .int .i64 0]) ∧ PgR14 n w w' tp mp sp xp Fm Gs z L0 b m f kn c v) ∨ (n < f + kn ∧ r = .returned (.tuple #[.slice none 0 0, .int .i64 50]))) := by
  obtain ⟨i0, hi, hz0, hz1, hz2⟩ := info_parts infoI
  have hxl := cell_lt c5
  have hk5 : ∀ w', Chg (FpW tp mp Fm Gs) w w' → w'.cell? ⟨xp, 5, none⟩ = some (.pointer (some ⟨tp, 0, none⟩)) := fun w' hc => (World.cell?_of_block (w := w) (a := ⟨xp, 5, none⟩) (hc.block xp hxl hx)).trans c5
  have hk4 : ∀ w', Chg (FpW tp mp Fm Gs) w w' → w'.cell? ⟨xp, 4, none⟩ = some (.pointer (some ⟨sp, 0, none⟩)) := fun w' hc => (World.cell?_of_block (w := w) (a := ⟨xp, 4, none⟩) (hc.block xp hxl hx)).trans c4
  have hst : PgR14 n w w tp mp sp xp Fm Gs z L0 b m f 0 c (.slice none 0 0) := ⟨Fm, Gs, C, h, Nx.below (Below.refl _ _), hC, ⟨rfl, .inl ⟨rfl, rfl⟩⟩, fun g hg => by cases hg⟩
  have he0 : { entM m with ppn := 0 } = entM m := by rcases hm with rfl | rfl | rfl <;> rfl
  have h1 := fun w => sentry_any m 0 hm (by omega) w
  rw [he0] at h1
  have h2 := fun F (hF : F < 18446744073709551616) w => sentry_any m F hm hF w
  have h3 := fun (k : Nat) (v : Value) (wr : World) (hk : k < kn) (hp : PgR14 n w wr tp mp sp xp Fm Gs z L0 b m f k c v) => pg_map hp hm (by omega) hb0 (h0 k hk) hz (by omega) hc
  have h4 := fun (k : Nat) (v : Value) (wr : World) (hp : PgM14 n w wr tp mp sp xp Fm Gs ⟨L0 ++ pgsN b m f k ++ [⟨b + 4096 * k, 0, entM m⟩], TT, f + k⟩ b m f k c v) => pg_take (S := ⟨L0 ++ pgsN b m f k ++ [⟨b + 4096 * k, 0, entM m⟩], TT, f + k⟩) hp
  have h5 := fun (k : Nat) (v : Value) (wr : World) (hk : k < kn) (hp : PgM14 n w wr tp mp sp xp Fm Gs ⟨L0 ++ pgsN b m f k ++ [⟨b + 4096 * k, 0, entM m⟩], TT, f + k + 1⟩ b m f k c v) => pg_chg (z := z) hp hm (by omega) hb0 (h0 k hk) (by omega) hc
  have hend : ∀ v wr, PgR14 n w wr tp mp sp xp Fm Gs z L0 b m f kn c v → f + kn ≤ n := fun v wr hp => by
    obtain ⟨Fm', Gs', C', ⟨ut, hW, hR⟩, _⟩ := hp
    have := hR.fits
    unfold stN at this
    dsimp only at this
    split at this
    · rename_i e; have := hK1 e.1; omega
    · exact this
  have hfn : ∀ k v wr S, PgM14 n w wr tp mp sp xp Fm Gs S b m f k c v → n ≤ 1048576 := fun k v wr S hp => by
    obtain ⟨Fm', Gs', C', ⟨ut, hW, hR⟩, _⟩ := hp
    exact hR.most
  have hbk : ∀ k, k < kn → IntKind.u64.wrap (((b + 4096 * k : Nat) : Int) + 4096) = ((b + 4096 * (k + 1) : Nat) : Int) := fun k hk => by rw [wrap_u64B]; omega
  generalize strM m = Z at *
  generalize hEV : pv (entM m) = EV at *
  have H1 := Lib.hid h1; have H2 := Lib.hid h2; have H3 := Lib.hid h3; have H4 := Lib.hid h4; have H5 := Lib.hid h5
  have K5 := Lib.hid hk5; have K4 := Lib.hid hk4; have HST := Lib.hid hst; have HEND := Lib.hid hend; have HFN := Lib.hid hfn; have HBK := Lib.hid hbk; have HKK := Lib.hid hkn
  have HZ1 := Lib.hid hz1; have HZ2 := Lib.hid hz2; have HZ0 := Lib.hid hz0
  clear h h1 h2 h3 h4 h5 hk5 hk4 hst hend hfn hbk hkn hK1 hm hb hb0 h0 hz hc c5 c4 hx hxl hC he0 hEV hz1 hz2 hz0
  go_enter Tryz.func66, Tryz.ntmps66
  go_upto_region 3 with (fail)
  go_loopw [1, 10, 16] (fun a l i wr => ∃ k v, k ≤ kn ∧ a = .int .u64 ((b + 4096 * k : Nat) : Int) ∧ v = l ∧ i = .int .i64 (k : Int) ∧ PgR14 n w wr tp mp sp xp Fm Gs z L0 b m f k c v) (fun a l i _ => kn - (intOf i).toNat)
  case atStart => exact ⟨0, .slice none 0 0, Nat.zero_le _, rfl, rfl, rfl, HST.out⟩
  case round =>
    obtain ⟨k, v, hk, rfl, rfl, rfl, hp⟩ := hrel
    have HP := Lib.hid hp
    clear hp
    by_cases hlt : k < kn
    · have hki : (k : Int) < (kn : Int) := by omega
      have hkb := HBK.out k hlt
      have HLT := Lib.hid hlt; have HKB := Lib.hid hkb
      have hme : kn - (k + 1) < kn - k := by omega
      have HME := Lib.hid hme
      have hk1 : IntKind.i64.wrap ((k : Int) + 1) = ((k + 1 : Nat) : Int) := by have := HKK.out; simp [IntKind.wrap, IntKind.bits, IntKind.signed]; omega
      clear hlt hkb hk hme
      have HK1 := Lib.hid hk1; clear hk1
      obtain ⟨va, hva⟩ : ∃ a, a = b + 4096 * k := ⟨_, rfl⟩
      have HVA := Lib.hid hva
      rw [← hva]
      clear hva
      go_upto_region 4 with (fail)
      refine wp_region_held_drew (S := fun w' => w'.cell? ⟨xp, 5, none⟩ = some (.pointer (some ⟨tp, 0, none⟩))) (by kernel_rfl) (K5.out wr HP.out.chg) (fun hHeld => ?_)
      simp only [List.size_toArray, List.length_cons, List.length_nil, Nat.reduceAdd]
      rw [show Array.replicate 9 false = [false, false, false, false, false, false, false, false, false].toArray from rfl]
      refine wpAnyH_take (i := 0) (v := ?_) rfl (by kernel_rfl) (by kernel_rfl) (by kernel_rfl) (fun _ _ _ h => h) (Or.inl ⟨by rfl, ?yldq⟩) (by assumption) ?_
      case yldq => (intro w hSw; (try dsimp only at hSw); go_simp; try with_reducible rfl)
      try simp only [Act.put, List.setIfInBounds_toArray, List.set_cons_zero, List.set_cons_succ, List.getElem_toArray, List.getElem_cons_succ, List.getElem_cons_zero]
      refine wpAnyH_take (i := 1) (v := ?_) rfl (by kernel_rfl) (by kernel_rfl) (by kernel_rfl) (fun _ _ _ h => h) (Or.inl ⟨by rfl, ?yldq⟩) (by assumption) ?_
      case yldq => (intro w hSw; (try dsimp only at hSw); go_simp; try with_reducible rfl)
      try simp only [Act.put, List.setIfInBounds_toArray, List.set_cons_zero, List.set_cons_succ, List.getElem_toArray, List.getElem_cons_succ, List.getElem_cons_zero]
      refine wpAnyH_take (i := 2) (v := ?_) rfl (by kernel_rfl) (by kernel_rfl) (by kernel_rfl) (fun _ _ _ h => h) (Or.inl ⟨by rfl, ?yldq⟩) (by assumption) ?_
      case yldq => (intro w hSw; (try dsimp only at hSw); go_simp; try with_reducible rfl)
      try simp only [Act.put, List.setIfInBounds_toArray, List.set_cons_zero, List.set_cons_succ, List.getElem_toArray, List.getElem_cons_succ, List.getElem_cons_zero]
      refine wpAnyH_take (i := 3) (v := _) rfl (by kernel_rfl) (by kernel_rfl) (by kernel_rfl) (fun _ _ _ h => h) (Or.inl ⟨by rfl, fun w hSw => yield_ptrT _ _ _ rfl rfl hSw⟩) (by assumption) ?_
      try simp only [Act.put, List.setIfInBounds_toArray, List.set_cons_zero, List.set_cons_succ, List.getElem_toArray, List.getElem_cons_succ, List.getElem_cons_zero]
      refine wpAnyH_take (i := 4) (v := ?_) rfl (by kernel_rfl) (by kernel_rfl) (by kernel_rfl) (fun _ _ _ h => h) (Or.inl ⟨by rfl, ?yldq⟩) (by assumption) ?_
      case yldq => (intro w hSw; (try dsimp only at hSw); go_simp; try with_reducible rfl)
      try simp only [Act.put, List.setIfInBounds_toArray, List.set_cons_zero, List.set_cons_succ, List.getElem_toArray, List.getElem_cons_succ, List.getElem_cons_zero]
      refine wpAnyH_take (i := 5) (v := ?_) rfl (by kernel_rfl) (by kernel_rfl) (by kernel_rfl) (fun _ _ _ h => h) (Or.inl ⟨by rfl, ?yldq⟩) (by assumption) ?_
      case yldq => (intro w hSw; (try dsimp only at hSw); go_simp; try with_reducible rfl)
      try simp only [Act.put, List.setIfInBounds_toArray, List.set_cons_zero, List.set_cons_succ, List.getElem_toArray, List.getElem_cons_succ, List.getElem_cons_zero]
      refine wpAnyH_ready (rs := [6]) (by kernel_rfl) (by simp) ?_
      refine AllReadyH.cons rfl (fun K hK => ?_) AllReadyH.nil
      go_simp
      refine (H1.out _).mono ?_
      rintro e w2 ⟨rfl, hb2⟩
      have HP2 := Lib.hid (HP.out.below ((Below.refl wr.heap.size wr).drew.trans hb2))
      refine hK.out _ _ (K5.out w2 HP2.out.chg) (fun hS6 => ?_)
      clear hK K hb2 hHeld
      have h3 := H3.out k v w2 HLT.out HP2.out
      rw [← HVA.out] at h3
      refine wpAnyH_ready (rs := [7]) (by kernel_rfl) (by simp) ?_
      refine AllReadyH.cons rfl (fun K hK => ?_) AllReadyH.nil
      go_simp
      refine h3.mono ?_
      rintro e w3 ⟨hcg, h33⟩
      have HC3 := Lib.hid hcg; have H33 := Lib.hid h33
      clear h3 hcg h33
      rcases H33.out with ⟨rfl, hpm⟩ | hbad
      rotate_left
      · have hr : e = .returned (.int .i64 50) ∧ n < f + kn := by
          have := HLT.out
          rcases hbad with ⟨h1, h2, h3⟩ | ⟨h1, h2, h3⟩
          · exact ⟨h1, by omega⟩
          · exact ⟨h1, by omega⟩
        obtain ⟨rfl, hnk⟩ := hr
        have HNK := Lib.hid hnk
        clear hbad hnk
        refine hK.out _ _ (K5.out w3 HC3.out) (fun hS7 => ?_)
        clear hK K hS6
        refine wpAnyH_take (i := 8) (v := ?_) rfl (by kernel_rfl) (by kernel_rfl) (by kernel_rfl) (fun _ _ _ h => h) (Or.inl ⟨by rfl, ?yldq⟩) (by assumption) ?_
        case yldq => (intro w hSw; (try dsimp only at hSw); go_simp; try with_reducible rfl)
        try simp only [Act.put, List.setIfInBounds_toArray, List.set_cons_zero, List.set_cons_succ, List.getElem_toArray, List.getElem_cons_succ, List.getElem_cons_zero]
        refine wpAnyH_done (by kernel_rfl) ?_ _
        clear hS7
        go_wp2
        go_ret2
        exact ⟨HC3.out, .inr ⟨HNK.out, rfl⟩⟩
      have HPM := Lib.hid hpm
      clear hpm
      refine hK.out _ _ (K5.out w3 HC3.out) (fun hS7 => ?_)
      clear hK K hS6
      refine wpAnyH_take (i := 8) (v := ?_) rfl (by kernel_rfl) (by kernel_rfl) (by kernel_rfl) (fun _ _ _ h => h) (Or.inl ⟨by rfl, ?yldq⟩) (by assumption) ?_
      case yldq => (intro w hSw; (try dsimp only at hSw); go_simp; try with_reducible rfl)
      try simp only [Act.put, List.setIfInBounds_toArray, List.set_cons_zero, List.set_cons_succ, List.getElem_toArray, List.getElem_cons_succ, List.getElem_cons_zero]
      refine wpAnyH_done (by kernel_rfl) ?_ _
      clear hS7
      have k4 := K4.out w3 HC3.out
      go_wp2_with fail
      clear k4
      refine (H4.out k v w3 (by rw [← HVA.out]; exact HPM.out)).mono ?_
      rintro e w4 ⟨hcg, h44⟩
      have HC4 := Lib.hid hcg; have H44 := Lib.hid h44
      clear hcg h44
      rcases H44.out with ⟨rfl, hfk, hpm⟩ | ⟨rfl, hnf⟩
      rotate_left
      · have hnk : n < f + kn := by have := HLT.out; omega
        have HNK := Lib.hid hnk
        clear hnk hnf
        go_wp2
        go_ret2
        exact ⟨HC4.out, .inr ⟨HNK.out, rfl⟩⟩
      have HPM4 := Lib.hid hpm
      have hF : f + k < 18446744073709551616 := by have := HFN.out _ _ _ _ hpm; omega
      have HF := Lib.hid hF
      clear hpm hF hfk
      have h22 := H2.out _ HF.out
      have h5 := fun wr => H5.out k v wr HLT.out
      obtain ⟨fk, hfk⟩ : ∃ a, a = f + k := ⟨_, rfl⟩
      have HFK := Lib.hid hfk
      rw [← hfk] at h22 h5 ⊢
      rw [← HVA.out] at h5
      generalize pv { entM m with ppn := fk } = EV2 at h22 h5
      have H22 := Lib.hid h22; have H55 := Lib.hid h5
      clear h22 h5 hfk
      go_upto_region 10 with (fail)
      refine wp_region_held_drew (S := fun w' => w'.cell? ⟨xp, 5, none⟩ = some (.pointer (some ⟨tp, 0, none⟩))) (by kernel_rfl) (K5.out w4 HC4.out) (fun hHeld => ?_)
      simp only [List.size_toArray, List.length_cons, List.length_nil, Nat.reduceAdd]
      rw [show Array.replicate 10 false = [false, false, false, false, false, false, false, false, false, false].toArray from rfl]
      refine wpAnyH_take (i := 0) (v := ?_) rfl (by kernel_rfl) (by kernel_rfl) (by kernel_rfl) (fun _ _ _ h => h) (Or.inl ⟨by rfl, ?yldq⟩) (by assumption) ?_
      case yldq => (intro w hSw; (try dsimp only at hSw); go_simp; try with_reducible rfl)
      try simp only [Act.put, List.setIfInBounds_toArray, List.set_cons_zero, List.set_cons_succ, List.getElem_toArray, List.getElem_cons_succ, List.getElem_cons_zero]
      refine wpAnyH_take (i := 1) (v := ?_) rfl (by kernel_rfl) (by kernel_rfl) (by kernel_rfl) (fun _ _ _ h => h) (Or.inl ⟨by rfl, ?yldq⟩) (by assumption) ?_
      case yldq => (intro w hSw; (try dsimp only at hSw); go_simp; try with_reducible rfl)
      try simp only [Act.put, List.setIfInBounds_toArray, List.set_cons_zero, List.set_cons_succ, List.getElem_toArray, List.getElem_cons_succ, List.getElem_cons_zero]
      refine wpAnyH_take (i := 2) (v := ?_) rfl (by kernel_rfl) (by kernel_rfl) (by kernel_rfl) (fun _ _ _ h => h) (Or.inl ⟨by rfl, ?yldq⟩) (by assumption) ?_
      case yldq => (intro w hSw; (try dsimp only at hSw); go_simp; try with_reducible rfl)
      try simp only [Act.put, List.setIfInBounds_toArray, List.set_cons_zero, List.set_cons_succ, List.getElem_toArray, List.getElem_cons_succ, List.getElem_cons_zero]
      refine wpAnyH_take (i := 3) (v := _) rfl (by kernel_rfl) (by kernel_rfl) (by kernel_rfl) (fun _ _ _ h => h) (Or.inl ⟨by rfl, fun w hSw => yield_ptrT _ _ _ rfl rfl hSw⟩) (by assumption) ?_
      try simp only [Act.put, List.setIfInBounds_toArray, List.set_cons_zero, List.set_cons_succ, List.getElem_toArray, List.getElem_cons_succ, List.getElem_cons_zero]
      refine wpAnyH_take (i := 4) (v := ?_) rfl (by kernel_rfl) (by kernel_rfl) (by kernel_rfl) (fun _ _ _ h => h) (Or.inl ⟨by rfl, ?yldq⟩) (by assumption) ?_
      case yldq => (intro w hSw; (try dsimp only at hSw); go_simp; try with_reducible rfl)
      try simp only [Act.put, List.setIfInBounds_toArray, List.set_cons_zero, List.set_cons_succ, List.getElem_toArray, List.getElem_cons_succ, List.getElem_cons_zero]
      refine wpAnyH_take (i := 5) (v := ?_) rfl (by kernel_rfl) (by kernel_rfl) (by kernel_rfl) (fun _ _ _ h => h) (Or.inl ⟨by rfl, ?yldq⟩) (by assumption) ?_
      case yldq => (intro w hSw; (try dsimp only at hSw); go_simp; try with_reducible rfl)
      try simp only [Act.put, List.setIfInBounds_toArray, List.set_cons_zero, List.set_cons_succ, List.getElem_toArray, List.getElem_cons_succ, List.getElem_cons_zero]
      refine wpAnyH_take (i := 6) (v := ?_) rfl (by kernel_rfl) (by kernel_rfl) (by kernel_rfl) (fun _ _ _ h => h) (Or.inl ⟨by rfl, ?yldq⟩) (by assumption) ?_
      case yldq => (intro w hSw; (try dsimp only at hSw); go_simp; try with_reducible rfl)
      try simp only [Act.put, List.setIfInBounds_toArray, List.set_cons_zero, List.set_cons_succ, List.getElem_toArray, List.getElem_cons_succ, List.getElem_cons_zero]
      refine wpAnyH_ready (rs := [7]) (by kernel_rfl) (by simp) ?_
      refine AllReadyH.cons rfl (fun K hK => ?_) AllReadyH.nil
      go_simp
      refine (H22.out _).mono ?_
      rintro e w5 ⟨rfl, hb2⟩
      have HP5 := Lib.hid (HPM4.out.below ((Below.refl w4.heap.size w4).drew.trans hb2))
      refine hK.out _ _ (K5.out w5 HP5.out.chg) (fun hS6 => ?_)
      clear hK K hb2 hHeld
      refine wpAnyH_ready (rs := [8]) (by kernel_rfl) (by simp) ?_
      refine AllReadyH.cons rfl (fun K hK => ?_) AllReadyH.nil
      go_simp
      refine (H55.out w5 (by rw [HFK.out, HVA.out]; exact HP5.out)).mono ?_
      rintro e w6 ⟨rfl, hcg, hp6⟩
      have HC6 := Lib.hid hcg; have HP6 := Lib.hid hp6
      clear hcg hp6
      refine hK.out _ _ (K5.out w6 HC6.out) (fun hS7 => ?_)
      clear hK K hS6
      refine wpAnyH_take (i := 9) (v := ?_) rfl (by kernel_rfl) (by kernel_rfl) (by kernel_rfl) (fun _ _ _ h => h) (Or.inl ⟨by rfl, ?yldq⟩) (by assumption) ?_
      case yldq => (intro w hSw; (try dsimp only at hSw); go_simp; try with_reducible rfl)
      try simp only [Act.put, List.setIfInBounds_toArray, List.set_cons_zero, List.set_cons_succ, List.getElem_toArray, List.getElem_cons_succ, List.getElem_cons_zero]
      refine wpAnyH_done (by kernel_rfl) ?_ _
      clear hS7
      obtain ⟨Fm6, Gs6, C6, t6, n6, z6, o6, g6⟩ := HP6.out
      have HO6 := Lib.hid o6
      have T6 := Lib.hid t6; have N6 := Lib.hid n6; have Z6 := Lib.hid z6; have G6 := Lib.hid g6
      clear o6 t6 n6 z6 g6
      have hsz6 := N6.out.2.size
      have HSZ6 := Lib.hid hsz6; clear hsz6
      go_wp2_with (first | (at_builtin; refine wpList_append_lies _ rfl _ _ 96 rfl w.heap.size 3 i0 (.int .i64 0) 1 8 Tryz.underlying96 hi HZ0.out HZ1.out HZ2.out rfl (by decide) v k ((upto (f : Int) k).map (Value.int .i64)) rfl (own_chgF HO6.out (Chg.alloc no _ _) (fun _ _ h => h)) ⟨w6.heap.size, 0, none⟩ 1 1 [.int .i64 (fk : Int)] rfl rfl ?c1 ?c2 ?c3 ?c4 ?c5 ?c6 (w6.heap.size + 1) ?c7 ?_))
      case c1 => exact cell_one_new _ _ _
      case c2 => exact ints_one (l := [(fk : Int)])
      case c3 => omega
      case c4 => have := HLT.out; have := HKK.out; unfold maxLen; omega
      case c5 => have := HLT.out; have := HKK.out; omega
      case c6 => have := HSZ6.out; simp; omega
      case c7 => simp
      intro g c3 w7 hown hgr hat hlt7
      have hc7 : Chg (fun j => v.ownBlock = some j) w6 w7 := ((Chg.alloc _ w6 _)).thenGrown hgr (fun k hk => .inl hk)
      have hfl : ∀ j, FpW tp mp Fm6 Gs6 j → j < w6.heap.size := by obtain ⟨u0, hW0, _⟩ := T6.out; exact hW0.lt
      have hup : (upto (f : Int) (k + 1)).map (Value.int .i64) = (upto (f : Int) k).map (Value.int .i64) ++ [.int .i64 (fk : Int)] := by
        rw [upto_snoc, List.map_append, HFK.out]
        rfl
      have hN7 : Nx w w7 tp mp Fm Gs Fm6 Gs6 := ⟨N6.out.1, N6.out.2.thenExt hc7 (fun j hj => .inr (own_fromF HO6.out j hj))⟩
      have hpr : PgR14 n w w7 tp mp sp xp Fm Gs z L0 b m f (k + 1) c (.slice (some ⟨g, 0, none⟩) (k + 1) c3) := by
        refine ⟨Fm6, Gs6, C6, T6.out.chg hc7 (fun j hj e => (G6.out j e).1 hj), hN7, Z6.out, by rw [hup]; exact hown, fun g' hg' => ?_⟩
        have hg' : g = g' := Option.some.inj hg'
        subst hg'
        refine ⟨fun e => ?_, hlt7⟩
        rcases hat with h | h
        · exact (G6.out g h).1 e
        · have := hfl g e; omega
      have HPR := Lib.hid hpr
      clear hown hgr hat hc7 hfl hup hN7 hpr
      have hkb := HKB.out
      rw [← HVA.out] at hkb
      have hk1 := HK1.out
      go_wp2
      refine ⟨⟨k + 1, _, by have := HLT.out; omega, congrArg (Value.int .u64) (by omega), rfl, congrArg (Value.int .i64) (by omega), HPR.out⟩, ?_⟩
      have := HME.out
      simp only [intOf]
      omega
    · obtain rfl : k = kn := by omega
      have hend := HEND.out _ _ HP.out
      have HE := Lib.hid hend
      clear hend hlt hk
      go_wp2
      go_ret2
      exact ⟨HP.out.chg, .inl ⟨HE.out, _, rfl, HP.out⟩⟩
end Go.Proofs.YtgnjbjbgfhjakaaGreat

namespace Go.Proofs.YtgnjbjbgfhjakaaGreat
open Go.RowKit
set_option linter.unusedVariables false
set_option linter.unusedSimpArgs false
attribute [local go_sem] setCell_drewN alloc_drewN

/-- a space that begins -/
structure BgX (P : Pm) (n nc np ns : Nat) (w : World) (Fm Gs : Nat → Prop) (C : Nat → List Int) (S : Tt) (c : Nat) (cv ov : Value) : Prop where
  ts : TS 0 n w P.tp P.mp P.sp Fm Gs C S c
  buf : Buf w P.bp P.q P.g P.N P.m (fun _ _ => zw)
  unit : Blk w P.up [.pointer (some ⟨P.mp, 0, none⟩), .pointer (some ⟨P.bp, 0, none⟩), .bool false, .int .i64 0, .int .u64 ((0 : Nat) : Int), .bool false, .bool false, .bool false] 145
  blk : Blk w P.xp [.int .i64 (nc : Int), .int .i64 (np : Int), .int .i64 (ns : Int), .pointer (some ⟨P.mp, 0, none⟩), .pointer (some ⟨P.sp, 0, none⟩), .pointer (some ⟨P.tp, 0, none⟩), .pointer (some ⟨P.bp, 0, none⟩), .pointer (some ⟨P.up, 0, none⟩), cv, ov, .map (some P.hb)] 98
  map : Mi w P.hb 0 (fun _ => none)
  s1 : ∀ j, FpT P.bp P.q P.g P.N j → ¬ FpW P.tp P.mp Fm Gs j
  u1 : ¬ FpW P.tp P.mp Fm Gs P.up
  u2 : ¬ FpT P.bp P.q P.g P.N P.up
  x1 : ¬ FpW P.tp P.mp Fm Gs P.xp
  x2 : ¬ FpT P.bp P.q P.g P.N P.xp
  x3 : P.xp ≠ P.up
  h1 : ¬ FpW P.tp P.mp Fm Gs P.hb
  h2 : ¬ FpT P.bp P.q P.g P.N P.hb
  h3 : P.hb ≠ P.up
  h4 : P.xp ≠ P.hb
section
variable {P : Pm} {n nc np ns : Nat} {w w' : World} {Fm Gs Fm' Gs' : Nat → Prop} {C C' : Nat → List Int} {S S' : Tt} {c c' : Nat} {cv ov v : Value}
theorem BgX.tabs (h : BgX P n nc np ns w Fm Gs C S c cv ov) (ht : TS 0 n w' P.tp P.mp P.sp Fm' Gs' C' S' c') (hN : Nx w w' P.tp P.mp Fm Gs Fm' Gs') : BgX P n nc np ns w' Fm' Gs' C' S' c' cv ov := by
  have l1 := h.unit.lt; have l2 := h.blk.lt; have l3 := h.map.lt
  exact ⟨ht, h.buf.chg hN.2 (fun k hk => h.s1 k hk), h.unit.chg hN.2 h.u1, h.blk.chg hN.2 h.x1, h.map.chg hN.2 h.h1, fun j hj => nx_row hN (h.s1 j hj) (h.buf.lt j hj), nx_row hN h.u1 l1, h.u2, nx_row hN h.x1 l2, h.x2, h.x3, nx_row hN h.h1 l3, h.h2, h.h3, h.h4⟩
theorem BgX.cells (h : BgX P n nc np ns w Fm Gs C S c cv ov) {cv' ov' : Value} (hc : Chg (fun j => j = P.xp) w w') (hb : Blk w' P.xp [.int .i64 (nc : Int), .int .i64 (np : Int), .int .i64 (ns : Int), .pointer (some ⟨P.mp, 0, none⟩), .pointer (some ⟨P.sp, 0, none⟩), .pointer (some ⟨P.tp, 0, none⟩), .pointer (some ⟨P.bp, 0, none⟩), .pointer (some ⟨P.up, 0, none⟩), cv', ov', .map (some P.hb)] 98) : BgX P n nc np ns w' Fm Gs C S c cv' ov' :=
  ⟨h.ts.chg hc (fun j hj e => by have e : j = P.xp := e; subst e; exact h.x1 hj), h.buf.chg hc (fun k hk e => by have e : k = P.xp := e; subst e; exact h.x2 hk), h.unit.chg hc (fun e => h.x3 (by have e : P.up = P.xp := e; exact e.symm)), hb, h.map.chg hc (fun e => h.h4 (by have e : P.hb = P.xp := e; exact e.symm)), h.s1, h.u1, h.u2, h.x1, h.x2, h.x3, h.h1, h.h2, h.h3, h.h4⟩
theorem BgX.lt (h : BgX P n nc np ns w Fm Gs C S c cv ov) : (∀ j, FpW P.tp P.mp Fm Gs j → j < w.heap.size) := by obtain ⟨u0, hW0, _⟩ := h.ts; exact hW0.lt
/-- a row beside a beginning space -/
def RwX (P : Pm) (w : World) (Fm Gs : Nat → Prop) (v : Value) (k f : Nat) : Prop :=
  ∃ A Y c1, v = .slice A k c1 ∧ Rdi w A Y c1 (upto (f : Int) k) ∧ (A ≠ none → Y < w.heap.size ∧ ¬ FpW P.tp P.mp Fm Gs Y ∧ ¬ FpT P.bp P.q P.g P.N Y ∧ Y ≠ P.up ∧ Y ≠ P.hb ∧ Y ≠ P.xp)
theorem RwX.of (h : BgX P n nc np ns w Fm Gs C S c cv ov) {k f : Nat} (ho : w'.ownsRow w.heap.size 3 1 v k ((upto (f : Int) k).map (Value.int .i64))) (hg : ∀ g, v.ownBlock = some g → ¬ FpW P.tp P.mp Fm' Gs' g ∧ g < w'.heap.size) : RwX P w' Fm' Gs' v k f := by
  have l1 := h.unit.lt; have l2 := h.blk.lt; have l3 := h.map.lt
  obtain ⟨A, Y, c1, e, hr, hk⟩ := own_rdi ho
  refine ⟨A, Y, c1, e, hr, fun hA => ?_⟩
  have hY := (hk Y).2 ⟨hA, rfl⟩
  have hge := own_fromF ho Y hY
  exact ⟨(hg Y hY).2, (hg Y hY).1, fun e => by have := h.buf.lt Y e; omega, by omega, by omega, by omega⟩
theorem RwX.chg {G : Nat → Prop} {k f : Nat} (h : RwX P w Fm Gs v k f) (hc : Chg G w w') (hG : ∀ j, G j → j < w.heap.size → FpW P.tp P.mp Fm Gs j ∨ j = P.xp ∨ j = P.up) (hn : ∀ j, FpW P.tp P.mp Fm' Gs' j → FpW P.tp P.mp Fm Gs j ∨ w.heap.size ≤ j) : RwX P w' Fm' Gs' v k f := by
  obtain ⟨A, Y, c1, e, hr, hA⟩ := h
  refine ⟨A, Y, c1, e, hr.chg hc (fun h0 hg => ?_), fun h0 => ?_⟩
  · obtain ⟨a1, a2, a3, a4, a5, a6⟩ := hA h0
    rcases hG Y hg a1 with h | h | h
    · exact a2 h
    · exact a6 h
    · exact a4 h
  · obtain ⟨a1, a2, a3, a4, a5, a6⟩ := hA h0
    exact ⟨Nat.lt_of_lt_of_le a1 hc.size, fun h => (hn Y h).elim a2 (by omega), a3, a4, a5, a6⟩
/-- where it ends -/
theorem bg_end (h : BgX P n nc np ns w Fm Gs C (stN false (pgsN 65536 3 3 nc) 131072 6 (3 + nc) np) c cv ov) (hC : ∀ g, 3 ≤ g → C g = zP) (hc : Chg (fun j => j = P.up) w w') (hu : Blk w' P.up [.pointer (some ⟨P.mp, 0, none⟩), .pointer (some ⟨P.bp, 0, none⟩), .bool true, .int .i64 1, .int .u64 ((0 : Nat) : Int), .bool true, .bool false, .bool false] 145)
    (hr1 : RwX P w Fm Gs cv nc 3) (hr2 : RwX P w Fm Gs ov np (3 + nc)) (b1 : 1 ≤ nc ∧ nc ≤ 16) (b2 : np ≤ 16) (b3 : ns ≤ 65536) (hn : 3 + nc + np ≤ n) (hcc : 32 ≤ c) :
    ∃ P' fr, P'.xp = P.xp ∧ P'.up = P.up ∧ SpX P' n w' Fm Gs C (fun _ _ => zw) (stN false (pgsN 65536 3 3 nc) 131072 6 (3 + nc) np) c (newS nc np ns n) fr ∧
      ∀ j, FpX P' Fm Gs j → FpW P.tp P.mp Fm Gs j ∨ FpT P.bp P.q P.g P.N j ∨ j = P.xp ∨ j = P.up ∨ j = P.hb ∨ cv.ownBlock = some j ∨ ov.ownBlock = some j := by
  obtain ⟨A1, Y1, c1, rfl, hd1, ha1⟩ := hr1
  obtain ⟨A2, Y2, c2, rfl, hd2, ha2⟩ := hr2
  have hst : stN false (pgsN 65536 3 3 nc) 131072 6 (3 + nc) np = ⟨pgsN 65536 3 3 nc ++ pgsN 131072 6 (3 + nc) np, TT, 3 + nc + np⟩ := by
    unfold stN
    have e2 : ¬ (false = true ∧ np = 0) := fun h => by cases h.1
    rw [if_neg e2, if_neg e2]
  have ht := tie_new (ns := ns) b1 b2 b3 hn hC
  have hts := h.ts.chg hc (fun j hj e => by have e : j = P.up := e; subst e; exact h.u1 hj)
  have hbuf := h.buf.chg hc (fun k hk e => by have e : k = P.up := e; subst e; exact h.u2 hk)
  obtain ⟨ut, hW, hR⟩ := hts
  have hfc : ∀ (P' : Pm), P'.up = P.up → P'.tp = P.tp → P'.mp = P.mp → P'.bp = P.bp → P'.q = P.q → P'.g = P.g → P'.N = P.N → ∀ j, FpC P' Fm Gs j → j = P.up ∨ FpW P.tp P.mp Fm Gs j ∨ FpT P.bp P.q P.g P.N j := by
    intro P' e1 e2 e3 e4 e5 e6 e7 j hj
    unfold FpC FpS14 at hj
    rw [e1, e2, e3, e4, e5, e6, e7] at hj
    rcases hj with e | e | e | e | e | e
    · exact .inl e
    · exact .inr (.inl (.inl e))
    · exact .inr (.inl (.inr (.inl e)))
    · exact .inr (.inl (.inr (.inr (.inl e))))
    · exact .inr (.inl (.inr (.inr (.inr e))))
    · exact .inr (.inr e)
  obtain ⟨y1, hy1⟩ : ∃ y, y = if A1 = none then P.xp else Y1 := ⟨_, rfl⟩
  obtain ⟨y2, hy2⟩ : ∃ y, y = if A2 = none then P.xp else Y2 := ⟨_, rfl⟩
  have hxl : P.xp < w.heap.size := h.blk.lt
  have hyy : ∀ {A : Option Addr} {Y y c1 : Nat} {l : List Int}, (y = if A = none then P.xp else Y) → Rdi w A Y c1 l → (A ≠ none → Y < w.heap.size ∧ ¬ FpW P.tp P.mp Fm Gs Y ∧ ¬ FpT P.bp P.q P.g P.N Y ∧ Y ≠ P.up ∧ Y ≠ P.hb ∧ Y ≠ P.xp) → Rdi w' A y c1 l ∧ y < w'.heap.size ∧ y ≠ P.up ∧ ¬ FpW P.tp P.mp Fm Gs y ∧ ¬ FpT P.bp P.q P.g P.N y ∧ y ≠ P.hb ∧ (y = P.xp ∨ (A ≠ none ∧ y = Y)) := by
    intro A Y y c1 l hy hd ha
    by_cases hA : A = none
    · rw [if_pos hA] at hy
      subst hy
      subst hA
      refine ⟨?_, Nat.lt_of_lt_of_le hxl hc.size, h.x3, h.x1, h.x2, h.h4, .inl rfl⟩
      rcases hd with hd | ⟨off, e, _⟩
      · exact .inl hd
      · cases e
    · rw [if_neg hA] at hy
      subst hy
      obtain ⟨a1, a2, a3, a4, a5, a6⟩ := ha hA
      exact ⟨hd.chg hc (fun _ e => a4 e), Nat.lt_of_lt_of_le a1 hc.size, a4, a2, a3, a5, .inr ⟨hA, rfl⟩⟩
  obtain ⟨d1, d2, d3, d4, d5, d6, d7⟩ := hyy hy1 hd1 ha1
  obtain ⟨k1, k2, k3, k4, k5, k6, k7⟩ := hyy hy2 hd2 ha2
  have hfr1 : frL (frN nc np) 16 nc = upto ((3 : Nat) : Int) nc := frL_upto nc (fun i hi => by unfold frN; rw [if_pos (by omega), Nat.add_sub_cancel_left])
  have hfr2 : frL (frN nc np) 32 np = upto ((3 + nc : Nat) : Int) np := frL_upto np (fun i hi => by unfold frN; rw [if_neg (by omega), if_pos (by omega), Nat.add_sub_cancel_left])
  have hfrn : (fun p => frN nc np (262144 + p)) = fun _ => none := by
    funext p
    unfold frN
    rw [if_neg (by omega), if_neg (by omega)]
  have hsl : (newS nc np ns n).sh.length = ns := List.length_replicate
  refine ⟨{ P with A1 := A1, A2 := A2, Y1 := y1, Y2 := y2, c1 := c1, c2 := c2 }, frN nc np, rfl, rfl, ⟨⟨⟨⟨ut, hW, hR⟩, ⟨hu, hW.mem, hbuf, fun e => h.u1 (.inr (.inr (.inl e))), h.u2, fun j hj e => h.s1 j hj (.inr (.inr (.inl e))), fun e => h.s1 _ e (.inr (.inl rfl)), fun e => h.u1 (.inr (.inl e))⟩, ?_, ?_, fun j hj e => h.s1 j hj (.inr (.inr (.inr e))), fun e => h.u1 (.inl e), fun e => h.u1 (.inr (.inr (.inr e))), fun e => h.s1 _ e (.inl rfl)⟩, coh_zero _ _ _⟩, ht, ?_, ?_, ?_, ?_, ?_, ?_, ?_, ?_, h.h4, d6, k6, d2, k2, ?_⟩, ?_⟩
  · rw [hst]
    intro p hp
    rcases List.mem_append.1 hp with hp | hp
    · obtain ⟨i, hi, rfl⟩ := pgsN_mem hp; rfl
    · obtain ⟨i, hi, rfl⟩ := pgsN_mem hp; rfl
  · rw [hst]
    have hnt : ∀ g, 3 ≤ g → ¬ Tf 0 TT g := fun g hg => by
      rintro (e | ⟨x, hx, e⟩)
      · omega
      · unfold TT at hx
        rcases List.mem_cons.1 hx with rfl | hx
        · have e : (1 : Nat) = g := e; omega
        · rcases List.mem_singleton.1 hx with rfl
          have e : (2 : Nat) = g := e; omega
    intro p hp
    rcases List.mem_append.1 hp with hp | hp
    · obtain ⟨i, hi, rfl⟩ := pgsN_mem hp
      exact ⟨by show 3 + i < 3 + nc + np; omega, hnt _ (by show 3 ≤ 3 + i; omega)⟩
    · obtain ⟨i, hi, rfl⟩ := pgsN_mem hp
      exact ⟨by show 3 + nc + i < 3 + nc + np; omega, hnt _ (by show 3 ≤ 3 + nc + i; omega)⟩
  · rw [hsl]; exact h.blk.chg hc (fun e => h.x3 e)
  · show Rdi w' A1 y1 c1 (frL (frN nc np) 16 nc)
    rw [hfr1]; exact d1
  · show Rdi w' A2 y2 c2 (frL (frN nc np) 32 np)
    rw [hfr2]; exact k1
  · rw [count_new, hfrn]; exact h.map.chg hc (fun e => h.h3 e)
  · intro e
    rcases hfc { P with A1 := A1, A2 := A2, Y1 := y1, Y2 := y2, c1 := c1, c2 := c2 } rfl rfl rfl rfl rfl rfl rfl _ e with e | e | e
    · exact h.x3 e
    · exact h.x1 e
    · exact h.x2 e
  · intro e
    rcases hfc { P with A1 := A1, A2 := A2, Y1 := y1, Y2 := y2, c1 := c1, c2 := c2 } rfl rfl rfl rfl rfl rfl rfl _ e with e | e | e
    · exact h.h3 e
    · exact h.h1 e
    · exact h.h2 e
  · intro e
    rcases hfc { P with A1 := A1, A2 := A2, Y1 := y1, Y2 := y2, c1 := c1, c2 := c2 } rfl rfl rfl rfl rfl rfl rfl _ e with e | e | e
    · exact d3 e
    · exact d4 e
    · exact d5 e
  · intro e
    rcases hfc { P with A1 := A1, A2 := A2, Y1 := y1, Y2 := y2, c1 := c1, c2 := c2 } rfl rfl rfl rfl rfl rfl rfl _ e with e | e | e
    · exact k3 e
    · exact k4 e
    · exact k5 e
  · rw [hst]
    show (pgsN 65536 3 3 nc ++ pgsN 131072 6 (3 + nc) np).length ≤ c
    rw [List.length_append, pgsN_len, pgsN_len]
    omega
  · rintro j (hj | hj | hj | hj | hj)
    · rcases hfc { P with A1 := A1, A2 := A2, Y1 := y1, Y2 := y2, c1 := c1, c2 := c2 } rfl rfl rfl rfl rfl rfl rfl _ hj with e | e | e
      · exact .inr (.inr (.inr (.inl e)))
      · exact .inl e
      · exact .inr (.inl e)
    · exact .inr (.inr (.inl hj))
    · exact .inr (.inr (.inr (.inr (.inl hj))))
    · have hj : j = y1 := hj
      rw [hj]
      rcases d7 with e | ⟨e1, e2⟩
      · exact .inr (.inr (.inl e))
      · refine .inr (.inr (.inr (.inr (.inr (.inl ?_)))))
        rcases hd1 with ⟨e, _⟩ | ⟨off, e, _⟩
        · exact absurd e e1
        · rw [e]; exact congrArg some e2.symm
    · have hj : j = y2 := hj
      rw [hj]
      rcases k7 with e | ⟨e1, e2⟩
      · exact .inr (.inr (.inl e))
      · refine .inr (.inr (.inr (.inr (.inr (.inr ?_)))))
        rcases hd2 with ⟨e, _⟩ | ⟨off, e, _⟩
        · exact absurd e e1
        · rw [e]; exact congrArg some e2.symm
/-- what begin changes -/
def BgF (P : Pm) (Fm Gs : Nat → Prop) : Nat → Prop := fun j => FpW P.tp P.mp Fm Gs j ∨ j = P.xp ∨ j = P.up
def BgA (P : Pm) (Fm Gs : Nat → Prop) : Nat → Prop := fun j => FpW P.tp P.mp Fm Gs j ∨ FpT P.bp P.q P.g P.N j ∨ j = P.xp ∨ j = P.up ∨ j = P.hb
theorem satp_one : modeW (wordS ⟨true, 1, 0⟩) = 8 ∧ stpW (wordS ⟨true, 1, 0⟩) = ⟨true, 1, 0⟩ ∧ wordS ⟨true, 1, 0⟩ < 18446744073709551616 := by
  refine ⟨by decide, by rfl, by decide⟩
end
end Go.Proofs.YtgnjbjbgfhjakaaGreat

namespace Go.Proofs.YtgnjbjbgfhjakaaGreat
open Go.RowKit
set_option linter.unusedVariables false
set_option linter.unusedSimpArgs false
attribute [local go_sem] setCell_drewN alloc_drewN

theorem BgX.mono9 {P : Pm} {n nc np ns : Nat} {w : World} {Fm Gs : Nat → Prop} {C : Nat → List Int} {S : Tt} {c c' : Nat} {cv ov : Value} (h : BgX P n nc np ns w Fm Gs C S c cv ov) (hc : c ≤ c') : BgX P n nc np ns w Fm Gs C S c' cv ov := { h with ts := h.ts.mono hc }
set_option maxHeartbeats 8000000 in
theorem sbegin_any {P : Pm} {n nc np ns : Nat} {w : World} {Fm Gs : Nat → Prop} {C : Nat → List Int} (h : BgX P n nc np ns w Fm Gs C (stN true [] 65536 3 3 0) 1 (.slice none 0 0) (.slice none 0 0)) (hC : ∀ g, 3 ≤ g → C g = zP) (b1 : 1 ≤ nc ∧ nc ≤ 16) (b2 : np ≤ 16) (b3 : ns ≤ 65536) :
    Calls Tryz.prog 37 #[.pointer (some ⟨P.xp, 0, none⟩)] w fun r w' => Chg (BgF P Fm Gs) w w' ∧ ((n < 3 + nc + np ∧ r = .returned (.int .i64 50)) ∨ (r = .returned (.int .i64 0) ∧ 3 + nc + np ≤ n ∧ ∃ P' Fm' Gs' C' R' S' fr, P'.xp = P.xp ∧ P'.up = P.up ∧ SpX P' n w' Fm' Gs' C' R' S' 321 (newS nc np ns n) fr ∧ ∀ j, FpX P' Fm' Gs' j → BgA P Fm Gs j ∨ w.heap.size ≤ j)) := by
  have h1 : Calls Tryz.prog 66 #[.pointer (some ⟨P.xp, 0, none⟩), .int .u64 65536, .int .i64 (nc : Int), .string ⟨#[118, 114, 45, 120, 117, 45, 97, 45]⟩] w _ :=
    spages_any (m := 3) (kn := nc) h.ts hC (by decide) b1.2 (fun _ => b1.1) (by decide) (by decide) (fun k hk p hp => by cases hp) (fun _ => ⟨rfl, rfl⟩) (by decide) (h.blk.cell 5) (h.blk.cell 4) h.x1
  have h2 : ∀ (w2 : World) (Fm1 Gs1 : Nat → Prop) (C1 : Nat → List Int) (v1 : Value), BgX P n nc np ns w2 Fm1 Gs1 C1 (stN true [] 65536 3 3 nc) (1 + 10 * nc) v1 (.slice none 0 0) → (∀ g, 3 ≤ g → C1 g = zP) →
      Calls Tryz.prog 66 #[.pointer (some ⟨P.xp, 0, none⟩), .int .u64 131072, .int .i64 (np : Int), .string ⟨#[118, 114, 119, 45, 117, 45, 97, 100]⟩] w2 fun r w' => Chg (FpW P.tp P.mp Fm1 Gs1) w2 w' ∧ ((3 + nc + np ≤ n ∧ ∃ v, r = .returned (.tuple #[v, .int .i64 0]) ∧ PgR14 n w2 w' P.tp P.mp P.sp P.xp Fm1 Gs1 false (pgsN 65536 3 3 nc) 131072 6 (3 + nc) np (1 + 10 * nc) v) ∨ (n < 3 + nc + np ∧ r = .returned (.tuple #[.slice none 0 0, .int .i64 50]))) := fun w2 Fm1 Gs1 C1 v1 hb hC1 =>
    spages_any (m := 6) (kn := np) (z := false) (L0 := pgsN 65536 3 3 nc) (b := 131072) (f := 3 + nc) (by rw [← stN_turn b1.1]; exact hb.ts) hC1 (by decide) b2 (fun h => by cases h) (by decide) (by decide)
      (fun k hk p hp => by obtain ⟨i, hi, rfl⟩ := pgsN_mem hp; exact ⟨rfl, by show 65536 + 4096 * i ≠ 131072 + 4096 * k; omega⟩) (fun h => by cases h) (by omega) (hb.blk.cell 5) (hb.blk.cell 4) hb.x1
  have h3 := fun w => putS_any ⟨true, 1, 0⟩ w (by decide) (by decide)
  have h4 := fun (w : World) (hB : Blk w P.up [.pointer (some ⟨P.mp, 0, none⟩), .pointer (some ⟨P.bp, 0, none⟩), .bool false, .int .i64 0, .int .u64 ((0 : Nat) : Int), .bool false, .bool false, .bool false] 145) => usetsatp_any P.up P.mp P.bp (wordS ⟨true, 1, 0⟩) false false false false 0 0 w hB satp_one.2.2 (.inr satp_one.1)
  rw [satp_one.2.1] at h4
  have h5 := fun (w : World) (hB : Blk w P.up [.pointer (some ⟨P.mp, 0, none⟩), .pointer (some ⟨P.bp, 0, none⟩), .bool true, .int .i64 1, .int .u64 ((0 : Nat) : Int), .bool false, .bool false, .bool false] 145) => usetmode_any P.up P.mp P.bp true false false false 1 0 usr w hB
  generalize wordS ⟨true, 1, 0⟩ = WS at h3 h4
  have hk0 : w.cell? ⟨P.xp, 0, none⟩ = some (.int .i64 (nc : Int)) := h.blk.cell 0
  have H0 := Lib.hid h; have H1 := Lib.hid h1; have H2 := Lib.hid h2; have H3 := Lib.hid h3; have H4 := Lib.hid h4; have H5 := Lib.hid h5
  have HB1 := Lib.hid b1; have HB2 := Lib.hid b2; have HB3 := Lib.hid b3
  clear h h1 h2 h3 h4 h5 b1 b2 b3 hC
  go_enter Tryz.func37, Tryz.ntmps37
  go_wp2_with fail
  refine H1.out.mono ?_
  rintro e w1 ⟨hcg, hres⟩
  have HC1 := Lib.hid hcg
  have hx1 := H0.out.blk.chg hcg H0.out.x1
  have HX1 := Lib.hid hx1
  clear hcg hk0 H1
  have f1 : ∀ o, w1.frozen? ⟨P.xp, o, none⟩ = false := fun o => HX1.out.free o
  have l1 : P.xp < w1.heap.size := HX1.out.lt
  have g8 : w1.cell? ⟨P.xp, 8, none⟩ = some (.slice none 0 0) := HX1.out.cell 8
  rcases hres with ⟨hle, vC, rfl, hpr⟩ | ⟨hlt, rfl⟩
  rotate_left
  · have HL := Lib.hid hlt
    have hc2 : Chg (BgF P Fm Gs) w (w1.setCell ⟨P.xp, 8, none⟩ (.slice none 0 0)) := (HC1.out.mono (fun j _ h => .inl h)).trans (Chg.setCell _ _ _ (.inr (.inl rfl)))
    have HC2 := Lib.hid hc2
    clear hlt hx1 hc2
    go_wp2
    go_ret
    exact ⟨HC2.out, .inl ⟨by have := HL.out; omega, rfl⟩⟩
  obtain ⟨AA1, cc1, rfl⟩ : ∃ A c, vC = .slice A nc c := by
    obtain ⟨_, _, _, _, _, _, o1, _⟩ := hpr
    exact own_sliceF o1
  have HP := Lib.hid hpr
  clear hpr hx1 hle
  go_upto_region 2 with (fail)
  obtain ⟨w2, hw2⟩ : ∃ x, x = w1.setCell ⟨P.xp, 8, none⟩ (.slice AA1 nc cc1) := ⟨_, rfl⟩
  rw [← hw2]
  clear f1 l1 g8
  obtain ⟨Fm1, Gs1, C1, t1, n1, z1, o1, g1⟩ := HP.out
  have hg1 := H0.out.tabs t1 n1
  have hs2 : Chg (fun j => j = P.xp) w1 w2 := hw2 ▸ Chg.setCell _ _ _ rfl
  have hg2 : BgX P n nc np ns w2 Fm1 Gs1 C1 (stN true [] 65536 3 3 nc) (1 + 10 * nc) (.slice AA1 nc cc1) (.slice none 0 0) := hg1.cells hs2 (hw2 ▸ hg1.blk.set 8 (.slice AA1 nc cc1))
  have hr1 : RwX P w1 Fm1 Gs1 (.slice AA1 nc cc1) nc 3 := RwX.of H0.out o1 g1
  have hr2 : RwX P w2 Fm1 Gs1 (.slice AA1 nc cc1) nc 3 := hr1.chg hs2 (fun j hj _ => .inr (.inl hj)) (fun j hj => .inl hj)
  have hvo : ∀ j, (Value.slice AA1 nc cc1).ownBlock = some j → w.heap.size ≤ j := own_fromF o1
  have hc2 : Chg (BgF P Fm Gs) w w2 := (HC1.out.mono (fun j _ h => .inl h)).trans (hs2.mono (fun j _ h => .inr (.inl h)))
  have HG2 := Lib.hid hg2; have HR2 := Lib.hid hr2; have HVO := Lib.hid hvo; have HC2 := Lib.hid hc2; have HN1 := Lib.hid n1; have HZ1 := Lib.hid z1
  clear hw2 t1 n1 z1 o1 g1 hg1 hs2 hg2 hr1 hr2 hvo hc2 HP HX1
  have k1 : w2.cell? ⟨P.xp, 1, none⟩ = some (.int .i64 (np : Int)) := HG2.out.blk.cell 1
  go_wp2_with fail
  refine (H2.out _ _ _ _ _ HG2.out HZ1.out).mono ?_
  rintro e w3 ⟨hcg, hres⟩
  have HC3 := Lib.hid hcg
  have hx3 := HG2.out.blk.chg hcg HG2.out.x1
  have HX3 := Lib.hid hx3
  have hfw : ∀ j, FpW P.tp P.mp Fm1 Gs1 j → BgF P Fm Gs j ∨ w.heap.size ≤ j := fun j hj => (HN1.out.1 j hj).imp .inl id
  have HFW := Lib.hid hfw
  clear hcg k1 H2 hfw
  have f3 : ∀ o, w3.frozen? ⟨P.xp, o, none⟩ = false := fun o => HX3.out.free o
  have l3 : P.xp < w3.heap.size := HX3.out.lt
  have g9 : w3.cell? ⟨P.xp, 9, none⟩ = some (.slice none 0 0) := HX3.out.cell 9
  rcases hres with ⟨hle, v2, rfl, hpr⟩ | ⟨hlt, rfl⟩
  rotate_left
  · have HL := Lib.hid hlt
    have hc4 : Chg (BgF P Fm Gs) w (w3.setCell ⟨P.xp, 9, none⟩ (.slice none 0 0)) := (HC2.out.thenExt HC3.out HFW.out).trans (Chg.setCell _ _ _ (.inr (.inl rfl)))
    have HC4 := Lib.hid hc4
    clear hlt hx3 hc4
    go_wp2
    go_ret
    exact ⟨HC4.out, .inl ⟨HL.out, rfl⟩⟩
  obtain ⟨AA2, cc2, rfl⟩ : ∃ A c, v2 = .slice A np c := by
    obtain ⟨_, _, _, _, _, _, o3, _⟩ := hpr
    exact own_sliceF o3
  have HP := Lib.hid hpr; have HLE := Lib.hid hle
  clear hpr hx3 hle
  go_upto_region 5 with (fail)
  obtain ⟨w4, hw4⟩ : ∃ x, x = w3.setCell ⟨P.xp, 9, none⟩ (.slice AA2 np cc2) := ⟨_, rfl⟩
  rw [← hw4]
  clear f3 l3 g9
  obtain ⟨Fm3, Gs3, C3, t3, n3, z3, o3, g3⟩ := HP.out
  have hg3 := HG2.out.tabs t3 n3
  have hs4 : Chg (fun j => j = P.xp) w3 w4 := hw4 ▸ Chg.setCell _ _ _ rfl
  have hg4 : BgX P n nc np ns w4 Fm3 Gs3 C3 (stN false (pgsN 65536 3 3 nc) 131072 6 (3 + nc) np) (1 + 10 * nc + 10 * np) (.slice AA1 nc cc1) (.slice AA2 np cc2) := hg3.cells hs4 (hw4 ▸ hg3.blk.set 9 (.slice AA2 np cc2))
  have hr3 : RwX P w3 Fm3 Gs3 (.slice AA2 np cc2) np (3 + nc) := RwX.of HG2.out o3 g3
  have hr4 : RwX P w4 Fm3 Gs3 (.slice AA2 np cc2) np (3 + nc) := hr3.chg hs4 (fun j hj _ => .inr (.inl hj)) (fun j hj => .inl hj)
  have hr13 : RwX P w3 Fm3 Gs3 (.slice AA1 nc cc1) nc 3 := HR2.out.chg n3.2 (fun j hj _ => .inl hj) n3.1
  have hr14 : RwX P w4 Fm3 Gs3 (.slice AA1 nc cc1) nc 3 := hr13.chg hs4 (fun j hj _ => .inr (.inl hj)) (fun j hj => .inl hj)
  have hvo2 : ∀ j, (Value.slice AA2 np cc2).ownBlock = some j → w.heap.size ≤ j := fun j hj => Nat.le_trans HC2.out.size (own_fromF o3 j hj)
  have hc4 : Chg (BgF P Fm Gs) w w4 := (HC2.out.thenExt HC3.out HFW.out).trans (hs4.mono (fun j _ h => .inr (.inl h)))
  have hfw4 : ∀ j, FpW P.tp P.mp Fm3 Gs3 j → FpW P.tp P.mp Fm Gs j ∨ w.heap.size ≤ j := fun j hj => (n3.1 j hj).elim (HN1.out.1 j) (fun h => .inr (Nat.le_trans HC2.out.size h))
  have HG4 := Lib.hid hg4; have HR4 := Lib.hid hr4; have HR14 := Lib.hid hr14; have HVO2 := Lib.hid hvo2; have HC4 := Lib.hid hc4; have HFW4 := Lib.hid hfw4; have HZ3 := Lib.hid z3
  clear hw4 t3 n3 z3 o3 g3 hg3 hs4 hg4 hr3 hr4 hr13 hr14 hvo2 hc4 hfw4 HP HX3 HG2 HR2
  go_upto_region 7 with (fail)
  have hroot := root13_any HG4.out.ts
  have u4 : w4.cell? ⟨P.xp, 7, none⟩ = some (.pointer (some ⟨P.up, 0, none⟩)) := HG4.out.blk.cell 7
  have t4 : w4.cell? ⟨P.xp, 5, none⟩ = some (.pointer (some ⟨P.tp, 0, none⟩)) := HG4.out.blk.cell 5
  have x4 : P.xp < w4.heap.size := HG4.out.blk.lt
  have hS : ∀ w', Chg (fun j => j = P.up) w4 w' → w'.cell? ⟨P.xp, 7, none⟩ = some (.pointer (some ⟨P.up, 0, none⟩)) ∧ w'.cell? ⟨P.xp, 5, none⟩ = some (.pointer (some ⟨P.tp, 0, none⟩)) := fun w' hc => by
    have hb := hc.block P.xp x4 (fun e => HG4.out.x3 e)
    exact ⟨(World.cell?_of_block (a := ⟨P.xp, 7, none⟩) hb).trans u4, (World.cell?_of_block (a := ⟨P.xp, 5, none⟩) hb).trans t4⟩
  have HS := Lib.hid hS
  have hrt := fun w' (hb : Below w4.heap.size w4 w') => root13_any (HG4.out.ts.below hb)
  have HRT := Lib.hid hrt
  clear hroot u4 t4 x4 hS hrt
  refine wp_region_held_drew (S := fun w' => w'.cell? ⟨P.xp, 7, none⟩ = some (.pointer (some ⟨P.up, 0, none⟩)) ∧ w'.cell? ⟨P.xp, 5, none⟩ = some (.pointer (some ⟨P.tp, 0, none⟩))) (by kernel_rfl) (HS.out w4 (Chg.refl _ _)) (fun hHeld => ?_)
  simp only [List.size_toArray, List.length_cons, List.length_nil, Nat.reduceAdd]
  rw [show Array.replicate 13 false = [false, false, false, false, false, false, false, false, false, false, false, false, false].toArray from rfl]
  refine wpAnyH_take (i := 0) (v := ?_) rfl (by kernel_rfl) (by kernel_rfl) (by kernel_rfl) (fun _ _ _ h => h) (Or.inl ⟨by rfl, ?yldq⟩) (by assumption) ?_
  case yldq => (intro w hSw; (try dsimp only at hSw); go_simp; try with_reducible rfl)
  try simp only [Act.put, List.setIfInBounds_toArray, List.set_cons_zero, List.set_cons_succ, List.getElem_toArray, List.getElem_cons_succ, List.getElem_cons_zero]
  refine wpAnyH_take (i := 1) (v := ?_) rfl (by kernel_rfl) (by kernel_rfl) (by kernel_rfl) (fun _ _ _ h => h) (Or.inl ⟨by rfl, ?yldq⟩) (by assumption) ?_
  case yldq => (intro w hSw; (try dsimp only at hSw); go_simp; try with_reducible rfl)
  try simp only [Act.put, List.setIfInBounds_toArray, List.set_cons_zero, List.set_cons_succ, List.getElem_toArray, List.getElem_cons_succ, List.getElem_cons_zero]
  refine wpAnyH_take (i := 2) (v := ?_) rfl (by kernel_rfl) (by kernel_rfl) (by kernel_rfl) (fun _ _ _ h => h) (Or.inl ⟨by rfl, ?yldq⟩) (by assumption) ?_
  case yldq => (intro w hSw; (try dsimp only at hSw); go_simp; try with_reducible rfl)
  try simp only [Act.put, List.setIfInBounds_toArray, List.set_cons_zero, List.set_cons_succ, List.getElem_toArray, List.getElem_cons_succ, List.getElem_cons_zero]
  refine wpAnyH_take (i := 3) (v := _) rfl (by kernel_rfl) (by kernel_rfl) (by kernel_rfl) (fun _ _ _ h => h) (Or.inl ⟨by rfl, fun w hSw => yield_ptrU _ _ _ rfl rfl hSw.1⟩) (by assumption) ?_
  try simp only [Act.put, List.setIfInBounds_toArray, List.set_cons_zero, List.set_cons_succ, List.getElem_toArray, List.getElem_cons_succ, List.getElem_cons_zero]
  refine wpAnyH_take (i := 4) (v := ?_) rfl (by kernel_rfl) (by kernel_rfl) (by kernel_rfl) (fun _ _ _ h => h) (Or.inl ⟨by rfl, ?yldq⟩) (by assumption) ?_
  case yldq => (intro w hSw; (try dsimp only at hSw); go_simp; try with_reducible rfl)
  try simp only [Act.put, List.setIfInBounds_toArray, List.set_cons_zero, List.set_cons_succ, List.getElem_toArray, List.getElem_cons_succ, List.getElem_cons_zero]
  refine wpAnyH_take (i := 5) (v := ?_) rfl (by kernel_rfl) (by kernel_rfl) (by kernel_rfl) (fun _ _ _ h => h) (Or.inl ⟨by rfl, ?yldq⟩) (by assumption) ?_
  case yldq => (intro w hSw; (try dsimp only at hSw); go_simp; try with_reducible rfl)
  try simp only [Act.put, List.setIfInBounds_toArray, List.set_cons_zero, List.set_cons_succ, List.getElem_toArray, List.getElem_cons_succ, List.getElem_cons_zero]
  refine wpAnyH_take (i := 6) (v := ?_) rfl (by kernel_rfl) (by kernel_rfl) (by kernel_rfl) (fun _ _ _ h => h) (Or.inl ⟨by rfl, ?yldq⟩) (by assumption) ?_
  case yldq => (intro w hSw; (try dsimp only at hSw); go_simp; try with_reducible rfl)
  try simp only [Act.put, List.setIfInBounds_toArray, List.set_cons_zero, List.set_cons_succ, List.getElem_toArray, List.getElem_cons_succ, List.getElem_cons_zero]
  refine wpAnyH_take (i := 7) (v := _) rfl (by kernel_rfl) (by kernel_rfl) (by kernel_rfl) (fun _ _ _ h => h) (Or.inl ⟨by rfl, fun w hSw => yield_ptrT _ _ _ rfl rfl hSw.2⟩) (by assumption) ?_
  try simp only [Act.put, List.setIfInBounds_toArray, List.set_cons_zero, List.set_cons_succ, List.getElem_toArray, List.getElem_cons_succ, List.getElem_cons_zero]
  refine wpAnyH_ready (rs := [8]) (by kernel_rfl) (by simp) ?_
  refine AllReadyH.cons rfl (fun K hK => ?_) AllReadyH.nil
  go_simp
  refine (HRT.out _ (Below.refl w4.heap.size w4).drew).mono ?_
  rintro e w5 ⟨rfl, hc5⟩
  have hb5 : Below w4.heap.size w4 w5 := (Below.refl w4.heap.size w4).drew.trans hc5.none
  have HB5 := Lib.hid hb5
  refine hK.out _ _ (HS.out w5 (Chg.of_below hb5)) (fun hS8 => ?_)
  clear hK K hc5 hb5 hHeld
  refine wpAnyH_take (i := 9) (v := ?_) rfl (by kernel_rfl) (by kernel_rfl) (by kernel_rfl) (fun _ _ _ h => h) (Or.inl ⟨by rfl, ?yldq⟩) (by assumption) ?_
  case yldq => (intro w hSw; (try dsimp only at hSw); go_simp; try with_reducible rfl)
  try simp only [Act.put, List.setIfInBounds_toArray, List.set_cons_zero, List.set_cons_succ, List.getElem_toArray, List.getElem_cons_succ, List.getElem_cons_zero]
  refine wpAnyH_take (i := 10) (v := ?_) rfl (by kernel_rfl) (by kernel_rfl) (by kernel_rfl) (fun _ _ _ h => h) (Or.inl ⟨by rfl, ?yldq⟩) (by assumption) ?_
  case yldq => (intro w hSw; (try dsimp only at hSw); go_simp; try with_reducible rfl)
  try simp only [Act.put, List.setIfInBounds_toArray, List.set_cons_zero, List.set_cons_succ, List.getElem_toArray, List.getElem_cons_succ, List.getElem_cons_zero]
  refine wpAnyH_ready (rs := [11]) (by kernel_rfl) (by simp) ?_
  refine AllReadyH.cons rfl (fun K hK => ?_) AllReadyH.nil
  go_simp
  refine (H3.out _).mono ?_
  rintro e w6 ⟨rfl, hb6⟩
  have HB6 := Lib.hid (HB5.out.trans (hb6.mono HB5.out.size))
  refine hK.out _ _ (HS.out w6 (Chg.of_below HB6.out)) (fun hS11 => ?_)
  clear hK K hb6
  refine wpAnyH_ready (rs := [12]) (by kernel_rfl) (by simp) ?_
  refine AllReadyH.cons rfl (fun K hK => ?_) AllReadyH.nil
  go_simp
  refine (H4.out w6 (HG4.out.unit.below HB6.out HG4.out.unit.lt)).mono ?_
  rintro e w7 ⟨rfl, hu7, hc7⟩
  have hc47 : Chg (fun j => j = P.up) w4 w7 := (Chg.of_below HB6.out).trans hc7
  have HU7 := Lib.hid hu7; have HC47 := Lib.hid hc47
  refine hK.out _ _ (HS.out w7 hc47) (fun hS12 => ?_)
  clear hK K hu7 hc7 hc47
  refine wpAnyH_done (by kernel_rfl) ?_ _
  clear hS12 hS11 hS8
  have k7 := (HS.out w7 HC47.out).1
  go_wp2_with fail
  refine (H5.out w7 HU7.out).mono ?_
  rintro e w8 ⟨rfl, hu8, hc8⟩
  have hc48 : Chg (fun j => j = P.up) w4 w8 := HC47.out.trans hc8
  have HU8 := Lib.hid hu8; have HC48 := Lib.hid hc48
  clear hu8 hc8 hc48 k7
  go_wp2
  go_ret
  have hb1 := HB1.out
  have hb2 := HB2.out
  obtain ⟨P', fr, e1, e2, hsp, hfp⟩ := bg_end (ns := ns) (HG4.out.mono9 (c' := 321) (by omega)) HZ3.out HC48.out HU8.out HR14.out HR4.out HB1.out HB2.out HB3.out HLE.out (by decide)
  refine ⟨HC4.out.trans (HC48.out.mono (fun j _ h => .inr (.inr h))), .inr ⟨rfl, HLE.out, P', _, _, _, _, _, fr, e1, e2, hsp, fun j hj => ?_⟩⟩
  rcases hfp j hj with h | h | h | h | h | h | h
  · exact (HFW4.out j h).imp .inl id
  · exact .inl (.inr (.inl h))
  · exact .inl (.inr (.inr (.inl h)))
  · exact .inl (.inr (.inr (.inr (.inl h))))
  · exact .inl (.inr (.inr (.inr (.inr h))))
  · exact .inr (HVO.out j h)
  · exact .inr (HVO2.out j h)
end Go.Proofs.YtgnjbjbgfhjakaaGreat

namespace Go.Proofs.YtgnjbjbgfhjakaaGreat
open Go.RowKit
set_option linter.unusedVariables false
set_option linter.unusedSimpArgs false
attribute [local go_sem] setCell_drewN alloc_drewN

theorem load_shape {w : World} {b : Nat} {c0 c1 c2 : Value} (h : Blk w b [c0, c1, c2] 23) :
    (Instr.loadAt 23 (.pointer (some ⟨b, 0, none⟩))).run Tryz.prog w = .ok (.agg #[c0, c1, c2]) w := by
  have h0 : w.cell? ⟨b, 0, none⟩ = some c0 := h.cell 0
  have h1 : w.cell? ⟨b, 1, none⟩ = some c1 := h.cell 1
  have h2 : w.cell? ⟨b, 2, none⟩ = some c2 := h.cell 2
  clear h
  go_simp
theorem yield_shape {w : World} {b : Nat} {c0 c1 c2 : Value} (a : Act) (o : Oper) (x : Operand) (ho : o.op = .load 23 x) (hx : a.eval x = .pointer (some ⟨b, 0, none⟩)) (h : Blk w b [c0, c1, c2] 23) :
    (execOp a.eval o).run Tryz.prog w = .ok (.value (.agg #[c0, c1, c2])) w := by
  have e := load_shape h
  obtain ⟨op, _, _, _, _, _⟩ := o
  dsimp only at ho
  subst ho
  unfold execOp
  simp only [hx]
  simp [e]
theorem wrapI {x : Int} (h0 : -9223372036854775808 ≤ x) (h1 : x ≤ 9223372036854775807) : IntKind.i64.wrap x = x := by simp [IntKind.wrap, IntKind.bits, IntKind.signed]; omega
set_option maxHeartbeats 4000000 in
theorem smay_any (c p s : Int) (w : World) : Calls Tryz.prog 31 #[.agg #[.int .i64 c, .int .i64 p, .int .i64 s]] w fun r w' => r = .returned (.bool (shP c p s)) ∧ Below w.heap.size w w' := by
  obtain ⟨Q, hQ⟩ : ∃ Q, Q = shP c p s := ⟨_, rfl⟩
  rw [← hQ]
  unfold shP at hQ
  have HQ := Lib.hid hQ
  clear hQ
  go_enter Tryz.func31, Tryz.ntmps31
  go_upto_region 1 with (fail)
  have nb0 := Blk.new w [.int .i64 c, .int .i64 p, .int .i64 s] 23
  have nls : Below w.heap.size w w := (Below.refl w.heap.size w)
  have nl0 := nls.alloc nls.size (.cells #[.int .i64 c, .int .i64 p, .int .i64 s] 23)
  have nl : Below w.heap.size w (w.alloc (.cells #[.int .i64 c, .int .i64 p, .int .i64 s] 23)) := nl0; clear nls nl0
  obtain ⟨B1, hB0⟩ : ∃ B, B = w.heap.size := ⟨_, rfl⟩
  obtain ⟨W1, hW⟩ : ∃ W, W = (w.alloc (.cells #[.int .i64 c, .int .i64 p, .int .i64 s] 23)) := ⟨_, rfl⟩
  rw [← hW] at nl nb0
  rw [← hB0] at nb0
  rw [← hW]
  try rw [← hB0]
  have K1_0 := Lib.hid nb0
  have G1 : Hid (w.heap.size ≤ B1) := Lib.hid (by have := (Nat.le_refl w.heap.size); omega)
  have L1 := Lib.hid nl
  clear nl hW nb0 hB0
  by_cases h0 : 1 ≤ c
  · by_cases h1 : c ≤ 16
    · by_cases h2 : 0 ≤ p
      · by_cases h3 : p ≤ 16
        · by_cases h4 : 0 ≤ s
          · by_cases h5 : s ≤ 65536
            · have m0_0 := K1_0.out.c0
              have m0_1 := K1_0.out.c1
              have m0_2 := K1_0.out.c2
              have mlt0 : B1 < W1.heap.size := K1_0.out.lt
              go_wp2
              clear m0_0 m0_1 m0_2 mlt0
              go_ret
              exact ⟨ret_bool (by rw [HQ.out]; simp; omega), L1.out⟩
            · have hn5 : 65536 < s := by omega
              have m0_0 := K1_0.out.c0
              have m0_1 := K1_0.out.c1
              have m0_2 := K1_0.out.c2
              have mlt0 : B1 < W1.heap.size := K1_0.out.lt
              go_wp2
              clear m0_0 m0_1 m0_2 mlt0
              go_ret
              exact ⟨ret_bool (by rw [HQ.out]; simp; omega), L1.out⟩
          · have hn4 : s < 0 := by omega
            have m0_0 := K1_0.out.c0
            have m0_1 := K1_0.out.c1
            have m0_2 := K1_0.out.c2
            have mlt0 : B1 < W1.heap.size := K1_0.out.lt
            go_wp2
            clear m0_0 m0_1 m0_2 mlt0
            go_ret
            exact ⟨ret_bool (by rw [HQ.out]; simp; omega), L1.out⟩
        · have hn3 : 16 < p := by omega
          have m0_0 := K1_0.out.c0
          have m0_1 := K1_0.out.c1
          have m0_2 := K1_0.out.c2
          have mlt0 : B1 < W1.heap.size := K1_0.out.lt
          go_wp2
          clear m0_0 m0_1 m0_2 mlt0
          go_ret
          exact ⟨ret_bool (by rw [HQ.out]; simp; omega), L1.out⟩
      · have hn2 : p < 0 := by omega
        have m0_0 := K1_0.out.c0
        have m0_1 := K1_0.out.c1
        have m0_2 := K1_0.out.c2
        have mlt0 : B1 < W1.heap.size := K1_0.out.lt
        go_wp2
        clear m0_0 m0_1 m0_2 mlt0
        go_ret
        exact ⟨ret_bool (by rw [HQ.out]; simp; omega), L1.out⟩
    · have hn1 : 16 < c := by omega
      have m0_0 := K1_0.out.c0
      have m0_1 := K1_0.out.c1
      have m0_2 := K1_0.out.c2
      have mlt0 : B1 < W1.heap.size := K1_0.out.lt
      go_wp2
      clear m0_0 m0_1 m0_2 mlt0
      go_ret
      exact ⟨ret_bool (by rw [HQ.out]; simp; omega), L1.out⟩
  · have hn0 : c < 1 := by omega
    have m0_0 := K1_0.out.c0
    have m0_1 := K1_0.out.c1
    have m0_2 := K1_0.out.c2
    have mlt0 : B1 < W1.heap.size := K1_0.out.lt
    go_wp2
    clear m0_0 m0_1 m0_2 mlt0
    go_ret
    exact ⟨ret_bool (by rw [HQ.out]; simp; omega), L1.out⟩
theorem sh_nat {c p s : Int} (h : shP c p s = true) : ∃ a b d : Nat, c = a ∧ p = b ∧ s = d ∧ 1 ≤ a ∧ a ≤ 16 ∧ b ≤ 16 ∧ d ≤ 65536 := by
  unfold shP at h
  have := of_decide_eq_true h
  exact ⟨c.toNat, p.toNat, s.toNat, by omega, by omega, by omega, by omega, by omega, by omega, by omega⟩
theorem sneed_yes (c p s : Nat) (w : World) (h : shP c p s = true) : Calls Tryz.prog 8 #[.agg #[.int .i64 (c : Int), .int .i64 (p : Int), .int .i64 (s : Int)]] w fun r w' => r = .returned (.int .i64 (needK c p s : Nat)) ∧ Below w.heap.size w w' := by
  have h1 := fun w => smay_any c p s w
  rw [h] at h1
  have hb : c ≤ 16 ∧ p ≤ 16 ∧ s ≤ 65536 := by
    unfold shP at h
    have := of_decide_eq_true h
    omega
  obtain ⟨Q, hQ⟩ : ∃ Q, Q = needK c p s := ⟨_, rfl⟩
  rw [← hQ]
  unfold needK at hQ
  have a1 : IntKind.i64.wrap ((s : Int) + 512) = ((s + 512 : Nat) : Int) := by rw [wrapI (by omega) (by omega)] <;> omega
  have a2 : IntKind.i64.wrap (((s + 512 : Nat) : Int) - 1) = ((s + 511 : Nat) : Int) := by rw [wrapI (by omega) (by omega)] <;> omega
  have a3 : ((s + 511 : Nat) : Int).tdiv 512 = (((s + 511) / 512 : Nat) : Int) := by rw [Int.tdiv_eq_ediv_of_nonneg (by omega)]; omega
  have a4 : IntKind.i64.wrap (((s + 511) / 512 : Nat) : Int) = (((s + 511) / 512 : Nat) : Int) := by rw [wrapI (by omega) (by omega)] <;> omega
  have a5 : IntKind.i64.wrap (3 + (((s + 511) / 512 : Nat) : Int)) = ((3 + (s + 511) / 512 : Nat) : Int) := by rw [wrapI (by omega) (by omega)] <;> omega
  have H1 := Lib.hid h1; have HQ := Lib.hid hQ
  clear h1 hQ h
  by_cases h0 : 0 < s
  · have h0i : 0 < (s : Int) := by omega
    have a6 : IntKind.i64.wrap (((3 + (s + 511) / 512 : Nat) : Int) + 1) = ((4 + (s + 511) / 512 : Nat) : Int) := by rw [wrapI (by omega) (by omega)] <;> omega
    have a7 : IntKind.i64.wrap (((4 + (s + 511) / 512 : Nat) : Int) + (c : Int)) = ((4 + (s + 511) / 512 + c : Nat) : Int) := by rw [wrapI (by omega) (by omega)] <;> omega
    have a8 : IntKind.i64.wrap (((4 + (s + 511) / 512 + c : Nat) : Int) + (p : Int)) = ((4 + (s + 511) / 512 + c + p : Nat) : Int) := by rw [wrapI (by omega) (by omega)] <;> omega
    have a9 : IntKind.i64.wrap (((4 + (s + 511) / 512 + c + p : Nat) : Int) + (s : Int)) = ((4 + (s + 511) / 512 + c + p + s : Nat) : Int) := by rw [wrapI (by omega) (by omega)] <;> omega
    have hq : Q = 4 + (s + 511) / 512 + c + p + s := by rw [HQ.out, if_neg (by omega)]; omega
    rw [hq]
    clear hq HQ hb
    generalize 4 + (s + 511) / 512 + c + p + s = q5 at *
    generalize 4 + (s + 511) / 512 + c + p = q4 at *
    generalize 4 + (s + 511) / 512 + c = q3 at *
    generalize 4 + (s + 511) / 512 = q2 at *
    generalize 3 + (s + 511) / 512 = q1 at *
    generalize (s + 511) / 512 = q0 at *
    generalize s + 511 = s2 at *
    generalize s + 512 = s1 at *
    go_enter Tryz.func8, Tryz.ntmps8
    go_upto_region 1 with (fail)
    have nb0 := Blk.new w [.int .i64 (c : Int), .int .i64 (p : Int), .int .i64 (s : Int)] 23
    have nls : Below w.heap.size w w := (Below.refl w.heap.size w)
    have nl0 := nls.alloc nls.size (.cells #[.int .i64 (c : Int), .int .i64 (p : Int), .int .i64 (s : Int)] 23)
    have nl : Below w.heap.size w (w.alloc (.cells #[.int .i64 (c : Int), .int .i64 (p : Int), .int .i64 (s : Int)] 23)) := nl0; clear nls nl0
    obtain ⟨B1, hB0⟩ : ∃ B, B = w.heap.size := ⟨_, rfl⟩
    obtain ⟨W1, hW⟩ : ∃ W, W = (w.alloc (.cells #[.int .i64 (c : Int), .int .i64 (p : Int), .int .i64 (s : Int)] 23)) := ⟨_, rfl⟩
    rw [← hW] at nl nb0
    rw [← hB0] at nb0
    rw [← hW]
    try rw [← hB0]
    have K1_0 := Lib.hid nb0
    have G1 : Hid (w.heap.size ≤ B1) := Lib.hid (by have := (Nat.le_refl w.heap.size); omega)
    have L1 := Lib.hid nl
    clear nl hW nb0 hB0
    have m0_0 := K1_0.out.c0
    have m0_1 := K1_0.out.c1
    have m0_2 := K1_0.out.c2
    have mlt0 : B1 < W1.heap.size := K1_0.out.lt
    go_wp2_with fail
    clear m0_0 m0_1 m0_2 mlt0
    refine (H1.out _).mono ?_
    rintro e w2 ⟨rfl, hb⟩
    have L2 := Lib.hid (L1.out.trans (hb.mono L1.out.size))
    have K2_0 := Lib.hid (K1_0.out.below hb K1_0.out.lt)
    clear hb K1_0
    have m0_0 := K2_0.out.c0
    have m0_1 := K2_0.out.c1
    have m0_2 := K2_0.out.c2
    have mlt0 : B1 < w2.heap.size := K2_0.out.lt
    go_wp2
    clear m0_0 m0_1 m0_2 mlt0
    go_ret
    exact ⟨rfl, L2.out⟩
  · obtain rfl : s = 0 := by omega
    have b7 : IntKind.i64.wrap (3 + (c : Int)) = ((3 + c : Nat) : Int) := by rw [wrapI (by omega) (by omega)] <;> omega
    have b8 : IntKind.i64.wrap (((3 + c : Nat) : Int) + (p : Int)) = ((3 + c + p : Nat) : Int) := by rw [wrapI (by omega) (by omega)] <;> omega
    have b9 : IntKind.i64.wrap ((3 + c + p : Nat) : Int) = ((3 + c + p : Nat) : Int) := by rw [wrapI (by omega) (by omega)] <;> omega
    have hq : Q = 3 + c + p := by rw [HQ.out, if_pos rfl]; simp
    rw [hq]
    clear hq HQ hb a1 a2 a3 a4 a5 h0
    generalize 3 + c + p = q4 at *
    generalize 3 + c = q3 at *
    go_enter Tryz.func8, Tryz.ntmps8
    go_upto_region 1 with (fail)
    have nb0 := Blk.new w [.int .i64 (c : Int), .int .i64 (p : Int), .int .i64 0] 23
    have nls : Below w.heap.size w w := (Below.refl w.heap.size w)
    have nl0 := nls.alloc nls.size (.cells #[.int .i64 (c : Int), .int .i64 (p : Int), .int .i64 0] 23)
    have nl : Below w.heap.size w (w.alloc (.cells #[.int .i64 (c : Int), .int .i64 (p : Int), .int .i64 0] 23)) := nl0; clear nls nl0
    obtain ⟨B1, hB0⟩ : ∃ B, B = w.heap.size := ⟨_, rfl⟩
    obtain ⟨W1, hW⟩ : ∃ W, W = (w.alloc (.cells #[.int .i64 (c : Int), .int .i64 (p : Int), .int .i64 0] 23)) := ⟨_, rfl⟩
    rw [← hW] at nl nb0
    rw [← hB0] at nb0
    rw [← hW]
    try rw [← hB0]
    have K1_0 := Lib.hid nb0
    have G1 : Hid (w.heap.size ≤ B1) := Lib.hid (by have := (Nat.le_refl w.heap.size); omega)
    have L1 := Lib.hid nl
    clear nl hW nb0 hB0
    have m0_0 := K1_0.out.c0
    have m0_1 := K1_0.out.c1
    have m0_2 := K1_0.out.c2
    have mlt0 : B1 < W1.heap.size := K1_0.out.lt
    go_wp2_with fail
    clear m0_0 m0_1 m0_2 mlt0
    refine (H1.out _).mono ?_
    rintro e w2 ⟨rfl, hb⟩
    have L2 := Lib.hid (L1.out.trans (hb.mono L1.out.size))
    have K2_0 := Lib.hid (K1_0.out.below hb K1_0.out.lt)
    clear hb K1_0
    have m0_0 := K2_0.out.c0
    have m0_1 := K2_0.out.c1
    have m0_2 := K2_0.out.c2
    have mlt0 : B1 < w2.heap.size := K2_0.out.lt
    go_wp2
    clear m0_0 m0_1 m0_2 mlt0
    go_ret
    exact ⟨rfl, L2.out⟩
end Go.Proofs.YtgnjbjbgfhjakaaGreat

namespace Go.Proofs.YtgnjbjbgfhjakaaGreat
open Go.RowKit
set_option linter.unusedVariables false
set_option linter.unusedSimpArgs false
attribute [local go_sem] setCell_drewN alloc_drewN

theorem stN_zero : stN true [] 65536 3 3 0 = ⟨[], [], 1⟩ := by
  unfold stN
  rw [if_pos ⟨rfl, rfl⟩, if_pos ⟨rfl, rfl⟩]
  rfl
theorem right_pow {N m : Int} : rightT N m = (powS N && decide (1 ≤ m ∧ m ≤ 8)) := by
  unfold rightT powS
  simp only [Bool.decide_or, Bool.decide_and, Bool.or_assoc]
theorem new_zero (g : Nat) : updC (fun _ => List.replicate 4096 0) 0 (List.replicate 4096 0) g = zP := by
  unfold updC zP; split <;> rfl
/-- what is there ahead of begin -/
structure AhX (w : World) (n N m : Nat) (wr : World) (mp bp q : Nat) (g : Nat → Nat) (sp tp : Nat) (Fm Gs : Nat → Prop) : Prop where
  chg : Chg no w wr
  ts : TS 0 n wr tp mp sp Fm Gs (updC (fun _ => List.replicate 4096 0) 0 (List.replicate 4096 0)) ⟨[], [], 1⟩ 1
  buf : Buf wr bp q g N m (fun _ _ => zw)
  s1 : ∀ j, FpT bp q g N j → ¬ FpW tp mp Fm Gs j
  nw : ∀ j, FpW tp mp Fm Gs j → w.heap.size ≤ j
  nt : ∀ j, FpT bp q g N j → w.heap.size ≤ j
theorem AhX.below {w wr w1 : World} {n N m mp bp q : Nat} {g : Nat → Nat} {sp tp : Nat} {Fm Gs : Nat → Prop} (h : AhX w n N m wr mp bp q g sp tp Fm Gs) (hb : Below wr.heap.size wr w1) : AhX w n N m w1 mp bp q g sp tp Fm Gs :=
  ⟨h.chg.trans (Chg.of_below hb), h.ts.below hb, h.buf.chg (Chg.of_below (F := no) hb) (fun _ _ h => h), h.s1, h.nw, h.nt⟩
theorem AhX.lt {w wr : World} {n N m mp bp q : Nat} {g : Nat → Nat} {sp tp : Nat} {Fm Gs : Nat → Prop} (h : AhX w n N m wr mp bp q g sp tp Fm Gs) : (∀ j, FpW tp mp Fm Gs j → j < wr.heap.size) ∧ ∀ j, FpT bp q g N j → j < wr.heap.size :=
  ⟨by obtain ⟨u0, hW0, _⟩ := h.ts; exact hW0.lt, h.buf.lt⟩
/-- begin's contract behind it -/
theorem begin_of {w wr W : World} {n N m mp bp q : Nat} {g : Nat → Nat} {sp tp : Nat} {Fm Gs : Nat → Prop} {xp up hb nc np ns : Nat} (h : AhX w n N m wr mp bp q g sp tp Fm Gs) (hW : Below wr.heap.size wr W) (hu : Blk W up [.pointer (some ⟨mp, 0, none⟩), .pointer (some ⟨bp, 0, none⟩), .bool false, .int .i64 0, .int .u64 0, .bool false, .bool false, .bool false] 145) (hm : Mi W hb 0 (fun _ => none))
    (hx : Blk W xp [.int .i64 (nc : Int), .int .i64 (np : Int), .int .i64 (ns : Int), .pointer (some ⟨mp, 0, none⟩), .pointer (some ⟨sp, 0, none⟩), .pointer (some ⟨tp, 0, none⟩), .pointer (some ⟨bp, 0, none⟩), .pointer (some ⟨up, 0, none⟩), .slice none 0 0, .slice none 0 0, .map (some hb)] 98) (g1 : wr.heap.size ≤ up) (g2 : wr.heap.size ≤ hb) (g3 : wr.heap.size ≤ xp) (d1 : up ≠ hb) (d2 : up ≠ xp) (d3 : hb ≠ xp)
    (b1 : 1 ≤ nc ∧ nc ≤ 16) (b2 : np ≤ 16) (b3 : ns ≤ 65536) :
    Calls Tryz.prog 37 #[.pointer (some ⟨xp, 0, none⟩)] W fun r w' => Chg no w w' ∧ ((n < 3 + nc + np ∧ r = .returned (.int .i64 50)) ∨ (r = .returned (.int .i64 0) ∧ 3 + nc + np ≤ n ∧ ∃ P Fm' Gs' C' R' S' fr, P.xp = xp ∧ SpX P n w' Fm' Gs' C' R' S' 321 (newS nc np ns n) fr ∧ ∀ j, FpX P Fm' Gs' j → w.heap.size ≤ j)) := by
  have hh := h.below hW
  obtain ⟨l1, l2⟩ := h.lt
  have z1 := h.chg.size
  have z2 := hW.size
  have hbg : BgX ⟨xp, up, tp, mp, sp, bp, q, hb, N, m, g, none, none, 0, 0, 0, 0⟩ n nc np ns W Fm Gs (updC (fun _ => List.replicate 4096 0) 0 (List.replicate 4096 0)) (stN true [] 65536 3 3 0) 1 (.slice none 0 0) (.slice none 0 0) :=
    ⟨by rw [stN_zero]; exact hh.ts, hh.buf, hu, hx, hm, hh.s1, fun e => absurd (l1 _ e) (Nat.not_lt.2 g1), fun e => absurd (l2 _ e) (Nat.not_lt.2 g1), fun e => absurd (l1 _ e) (Nat.not_lt.2 g3), fun e => absurd (l2 _ e) (Nat.not_lt.2 g3), fun e => d2 e.symm, fun e => absurd (l1 _ e) (Nat.not_lt.2 g2), fun e => absurd (l2 _ e) (Nat.not_lt.2 g2), fun e => d1 e.symm, fun e => d3 e.symm⟩
  refine (sbegin_any hbg (fun g _ => new_zero g) b1 b2 b3).mono ?_
  rintro r w' ⟨hc, hr⟩
  have hall : Chg no w w' := hh.chg.thenExt hc (fun j hj => .inr (by
    rcases hj with h1 | h1 | h1
    · exact h.nw j h1
    · have h1 : j = xp := h1; omega
    · have h1 : j = up := h1; omega))
  refine ⟨hall, hr.imp id ?_⟩
  rintro ⟨e1, e2, P', Fm', Gs', C', R', S', fr, e3, e4, hs, hf⟩
  refine ⟨e1, e2, P', Fm', Gs', C', R', S', fr, e3, hs, fun j hj => ?_⟩
  rcases hf j hj with (h1 | h1 | h1 | h1 | h1) | h1
  · exact h.nw j h1
  · exact h.nt j h1
  · have h1 : j = xp := h1; omega
  · have h1 : j = up := h1; omega
  · have h1 : j = hb := h1; omega
  · omega
set_option maxHeartbeats 16000000 in
theorem snew_any (c p s n N m : Int) (w : World) : Calls Tryz.prog 6 #[.agg #[.int .i64 c, .int .i64 p, .int .i64 s], .int .i64 n, .int .i64 N, .int .i64 m] w fun r w' => Chg no w w' ∧ ((newE c p s n N m ≠ 0 ∧ r = .returned (.tuple #[.pointer none, .int .i64 (newE c p s n N m)])) ∨ (newE c p s n N m = 0 ∧ ∃ P Fm Gs C R S fr, r = .returned (.tuple #[.pointer (some ⟨P.xp, 0, none⟩), .int .i64 0]) ∧ SpX P n.toNat w' Fm Gs C R S 321 (newS c.toNat p.toNat s.toNat n.toNat) fr ∧ ∀ j, FpX P Fm Gs j → w.heap.size ≤ j)) := by
  have h1 := fun w => smay_any c p s w
  obtain ⟨E, hE⟩ : ∃ E, E = newE c p s n N m := ⟨_, rfl⟩
  rw [← hE]
  unfold newE at hE
  have HE := Lib.hid hE; clear hE
  cases hq : shP c p s with
  | false =>
    rw [hq] at h1
    have he : E = 2 := by rw [HE.out, hq]; rfl
    subst he
    have H1 := Lib.hid h1; clear h1 hq HE
    go_enter Tryz.func6, Tryz.ntmps6
    go_upto_region 1 with (fail)
    have nb0 := Blk.new w [.int .i64 c, .int .i64 p, .int .i64 s] 23
    have nls : Below w.heap.size w w := (Below.refl w.heap.size w)
    have nl0 := nls.alloc nls.size (.cells #[.int .i64 c, .int .i64 p, .int .i64 s] 23)
    have nl : Below w.heap.size w (w.alloc (.cells #[.int .i64 c, .int .i64 p, .int .i64 s] 23)) := nl0; clear nls nl0
    obtain ⟨B1, hB0⟩ : ∃ B, B = w.heap.size := ⟨_, rfl⟩
    obtain ⟨W1, hW⟩ : ∃ W, W = (w.alloc (.cells #[.int .i64 c, .int .i64 p, .int .i64 s] 23)) := ⟨_, rfl⟩
    rw [← hW] at nl nb0
    rw [← hB0] at nb0
    rw [← hW]
    try rw [← hB0]
    have K1_0 := Lib.hid nb0
    have G1 : Hid (w.heap.size ≤ B1) := Lib.hid (by have := (Nat.le_refl w.heap.size); omega)
    have L1 := Lib.hid nl
    clear nl hW nb0 hB0
    have m0_0 := K1_0.out.c0
    have m0_1 := K1_0.out.c1
    have m0_2 := K1_0.out.c2
    have mlt0 : B1 < W1.heap.size := K1_0.out.lt
    go_wp2_with fail
    clear m0_0 m0_1 m0_2 mlt0
    refine (H1.out _).mono ?_
    rintro e w2 ⟨rfl, hb⟩
    have L2 := Lib.hid (L1.out.trans (hb.mono L1.out.size))
    have K2_0 := Lib.hid (K1_0.out.below hb K1_0.out.lt)
    clear hb K1_0
    go_wp2
    go_ret2
    exact ⟨Chg.of_below L2.out, .inl ⟨by decide, rfl⟩⟩
  | true =>
    obtain ⟨nc, np, ns, rfl, rfl, rfl, b1, b2, b3, b4⟩ := sh_nat hq
    rw [hq] at h1
    by_cases hn : 1 ≤ n ∧ n ≤ 1048576
    rotate_left
    · have he : E = 2 := by rw [HE.out, hq, decide_eq_false hn]; rfl
      subst he
      have h2 := fun w => new_no n w hn
      have H1 := Lib.hid h1; have H2 := Lib.hid h2; clear h1 h2 hq HE hn
      go_enter Tryz.func6, Tryz.ntmps6
      go_upto_region 1 with (fail)
      have nb0 := Blk.new w [.int .i64 (nc : Int), .int .i64 (np : Int), .int .i64 (ns : Int)] 23
      have nls : Below w.heap.size w w := (Below.refl w.heap.size w)
      have nl0 := nls.alloc nls.size (.cells #[.int .i64 (nc : Int), .int .i64 (np : Int), .int .i64 (ns : Int)] 23)
      have nl : Below w.heap.size w (w.alloc (.cells #[.int .i64 (nc : Int), .int .i64 (np : Int), .int .i64 (ns : Int)] 23)) := nl0; clear nls nl0
      obtain ⟨B1, hB0⟩ : ∃ B, B = w.heap.size := ⟨_, rfl⟩
      obtain ⟨W1, hW⟩ : ∃ W, W = (w.alloc (.cells #[.int .i64 (nc : Int), .int .i64 (np : Int), .int .i64 (ns : Int)] 23)) := ⟨_, rfl⟩
      rw [← hW] at nl nb0
      rw [← hB0] at nb0
      rw [← hW]
      try rw [← hB0]
      have K1_0 := Lib.hid nb0
      have G1 : Hid (w.heap.size ≤ B1) := Lib.hid (by have := (Nat.le_refl w.heap.size); omega)
      have L1 := Lib.hid nl
      clear nl hW nb0 hB0
      have m0_0 := K1_0.out.c0
      have m0_1 := K1_0.out.c1
      have m0_2 := K1_0.out.c2
      have mlt0 : B1 < W1.heap.size := K1_0.out.lt
      go_wp2_with fail
      clear m0_0 m0_1 m0_2 mlt0
      refine (H1.out _).mono ?_
      rintro e w2 ⟨rfl, hb⟩
      have L2 := Lib.hid (L1.out.trans (hb.mono L1.out.size))
      have K2_0 := Lib.hid (K1_0.out.below hb K1_0.out.lt)
      clear hb K1_0
      go_wp2_with fail
      refine (H2.out _).mono ?_
      rintro e wx ⟨rfl, rfl⟩
      go_wp2
      go_ret2
      exact ⟨Chg.of_below L2.out, .inl ⟨by decide, rfl⟩⟩
    obtain ⟨n, rfl⟩ : ∃ k : Nat, n = k := ⟨n.toNat, by omega⟩
    have h2 := fun w => newX n w (by omega) (by omega)
    have hrp : rightT N m = (powS N && decide (1 ≤ m ∧ m ≤ 8)) := right_pow
    cases hr : rightT N m with
    | false =>
      have he : E = 2 := by rw [HE.out, hq, decide_eq_true hn, Bool.and_assoc, ← hrp, hr]; rfl
      subst he
      have h3 := fun w => tlb_new_bad N m w hr
      have H1 := Lib.hid h1; have H2 := Lib.hid h2; have H3 := Lib.hid h3; clear h1 h2 h3 hq HE hn hrp hr
      go_enter Tryz.func6, Tryz.ntmps6
      go_upto_region 1 with (fail)
      have nb0 := Blk.new w [.int .i64 (nc : Int), .int .i64 (np : Int), .int .i64 (ns : Int)] 23
      have nls : Below w.heap.size w w := (Below.refl w.heap.size w)
      have nl0 := nls.alloc nls.size (.cells #[.int .i64 (nc : Int), .int .i64 (np : Int), .int .i64 (ns : Int)] 23)
      have nl : Below w.heap.size w (w.alloc (.cells #[.int .i64 (nc : Int), .int .i64 (np : Int), .int .i64 (ns : Int)] 23)) := nl0; clear nls nl0
      obtain ⟨B1, hB0⟩ : ∃ B, B = w.heap.size := ⟨_, rfl⟩
      obtain ⟨W1, hW⟩ : ∃ W, W = (w.alloc (.cells #[.int .i64 (nc : Int), .int .i64 (np : Int), .int .i64 (ns : Int)] 23)) := ⟨_, rfl⟩
      rw [← hW] at nl nb0
      rw [← hB0] at nb0
      rw [← hW]
      try rw [← hB0]
      have K1_0 := Lib.hid nb0
      have G1 : Hid (w.heap.size ≤ B1) := Lib.hid (by have := (Nat.le_refl w.heap.size); omega)
      have L1 := Lib.hid nl
      clear nl hW nb0 hB0
      have m0_0 := K1_0.out.c0
      have m0_1 := K1_0.out.c1
      have m0_2 := K1_0.out.c2
      have mlt0 : B1 < W1.heap.size := K1_0.out.lt
      go_wp2_with fail
      clear m0_0 m0_1 m0_2 mlt0
      refine (H1.out _).mono ?_
      rintro e w2 ⟨rfl, hb⟩
      have L2 := Lib.hid (L1.out.trans (hb.mono L1.out.size))
      have K2_0 := Lib.hid (K1_0.out.below hb K1_0.out.lt)
      clear hb K1_0
      go_wp2_with fail
      refine (H2.out _).mono ?_
      rintro e w6 ⟨mp, Fm, rfl, hmp, hFm, hM, hc⟩
      have HC6 := Lib.hid ((Chg.of_below (F := no) L2.out).trans hc)
      clear hmp hFm hM hc
      go_wp2_with fail
      refine (H3.out _).mono ?_
      rintro e wx ⟨rfl, rfl⟩
      go_wp2
      go_ret2
      exact ⟨HC6.out, .inl ⟨by decide, rfl⟩⟩
    | true =>
      have hNm : ∃ a b : Nat, N = a ∧ m = b := by
        rw [hr] at hrp
        have h9 := hrp.symm
        rw [Bool.and_eq_true] at h9
        have h10 := of_decide_eq_true h9.2
        have h11 := of_decide_eq_true (show decide (N = 1 ∨ N = 2 ∨ N = 4 ∨ N = 8 ∨ N = 16 ∨ N = 32 ∨ N = 64) = true from h9.1)
        exact ⟨N.toNat, m.toNat, by omega, by omega⟩
      obtain ⟨N, m, rfl, rfl⟩ := hNm
      have he : E = if (n : Int) < 3 + (nc : Int) + (np : Int) then 50 else 0 := by rw [HE.out, hq, decide_eq_true hn, Bool.and_assoc, ← hrp, hr]; rfl
      have h3 := fun w => tlb_new N m w hr
      have h4 := fun w => new_yesF (0 : Int) n w (by omega) (by omega)
      have h5 := fun w mp sp Fm Gs hM hS hd => new14_yes n w mp sp Fm Gs hM hS hd
      have h6 := fun mp bp w => unew_any mp bp w
      have H1 := Lib.hid h1; have H2 := Lib.hid h2; have H3 := Lib.hid h3; have H4 := Lib.hid h4; have H5 := Lib.hid h5; have H6 := Lib.hid h6; have HEE := Lib.hid he
      clear h1 h2 h3 h4 h5 h6 hq HE hn hrp hr he
      go_enter Tryz.func6, Tryz.ntmps6
      go_upto_region 1 with (fail)
      have nb0 := Blk.new w [.int .i64 (nc : Int), .int .i64 (np : Int), .int .i64 (ns : Int)] 23
      have nls : Below w.heap.size w w := (Below.refl w.heap.size w)
      have nl0 := nls.alloc nls.size (.cells #[.int .i64 (nc : Int), .int .i64 (np : Int), .int .i64 (ns : Int)] 23)
      have nl : Below w.heap.size w (w.alloc (.cells #[.int .i64 (nc : Int), .int .i64 (np : Int), .int .i64 (ns : Int)] 23)) := nl0; clear nls nl0
      obtain ⟨B1, hB0⟩ : ∃ B, B = w.heap.size := ⟨_, rfl⟩
      obtain ⟨W1, hW⟩ : ∃ W, W = (w.alloc (.cells #[.int .i64 (nc : Int), .int .i64 (np : Int), .int .i64 (ns : Int)] 23)) := ⟨_, rfl⟩
      rw [← hW] at nl nb0
      rw [← hB0] at nb0
      rw [← hW]
      try rw [← hB0]
      have K1_0 := Lib.hid nb0
      have G1 : Hid (w.heap.size ≤ B1) := Lib.hid (by have := (Nat.le_refl w.heap.size); omega)
      have L1 := Lib.hid nl
      clear nl hW nb0 hB0
      have m0_0 := K1_0.out.c0
      have m0_1 := K1_0.out.c1
      have m0_2 := K1_0.out.c2
      have mlt0 : B1 < W1.heap.size := K1_0.out.lt
      go_wp2_with fail
      clear m0_0 m0_1 m0_2 mlt0
      refine (H1.out _).mono ?_
      rintro e w2 ⟨rfl, hb⟩
      have L2 := Lib.hid (L1.out.trans (hb.mono L1.out.size))
      have K2_0 := Lib.hid (K1_0.out.below hb K1_0.out.lt)
      clear hb K1_0
      go_wp2_with fail
      refine (H2.out _).mono ?_
      rintro e w6 ⟨mp, Fm, rfl, hmp, hFm, hM, hc⟩
      have KS6 := Lib.hid (K2_0.out.chg hc (fun h => h))
      have HC6 := Lib.hid ((Chg.of_below (F := no) L2.out).trans hc)
      have z0 := L2.out.size
      have z1 := hc.size
      have hm6 : (∀ j, Fm j → j < w6.heap.size) ∧ mp < w6.heap.size := ⟨hM.lt, hM.mplt⟩
      have HM6 := Lib.hid hm6; clear hm6
      have hl7 := K2_0.out.lt
      have KS7LT := Lib.hid hl7; clear hl7
      have HMP := Lib.hid hmp; have HFM := Lib.hid hFm; have HM := Lib.hid hM; have Z0 := Lib.hid z0; have Z1 := Lib.hid z1
      clear hmp hFm hM hc z0 z1
      go_wp2_with fail
      refine (H3.out _).mono ?_
      rintro e w7 ⟨bp, q, g, rfl, hbf, hft, hb⟩
      have KS7 := Lib.hid (KS6.out.below hb KS6.out.lt)
      have HC7 := Lib.hid (HC6.out.trans (Chg.of_below hb))
      have z2 := hb.size
      have Z2 := Lib.hid z2
      have HM7 := Lib.hid (HM.out.chg (Chg.of_below (F := no) hb) (fun h => h) (fun _ _ h => h))
      have HBF := Lib.hid hbf; have HFT := Lib.hid hft
      clear hb hbf hft z2 KS6 HM
      go_wp2_with fail
      refine (H4.out _).mono ?_
      rintro e w8 ⟨sp, Gs, rfl, hsk, hgs, hc⟩
      have KS8 := Lib.hid (KS7.out.chg hc (fun h => h))
      have HC8 := Lib.hid (HC7.out.trans hc)
      have z3 := hc.size
      have Z3 := Lib.hid z3
      have HM8 := Lib.hid (HM7.out.chg hc (fun h => h) (fun _ _ h => h))
      have HBF8 := Lib.hid (HBF.out.chg hc (fun _ _ h => h))
      have HSK := Lib.hid hsk; have HGS := Lib.hid hgs
      clear hc hsk hgs z3 KS7 HM7
      go_wp2_with fail
      refine (H5.out w8 mp sp Fm Gs HM8.out HSK.out (fun j h1 h2 => by
        have := HGS.out j h2
        have := Z2.out; have := Z3.out
        rcases h1 with h1 | h1
        · have := HM6.out.1 j h1; omega
        · have := HM6.out.2; omega)).mono ?_
      rintro e w9 ⟨tp, Fm9, rfl, hts, hfw, hc⟩
      have z4 := hc.size
      have hlt8 : ∀ j, Gs j → j < w8.heap.size := fun j hj => HSK.out.lt j hj
      have hah : AhX w n N m w9 mp bp q g sp tp Fm9 Gs := by
        have y0 := Z0.out; have y1 := Z1.out; have y2 := Z2.out; have y3 := Z3.out
        have hsrc : ∀ j, FpW tp mp Fm9 Gs j → (Fm j ∨ j = mp) ∨ Gs j ∨ w8.heap.size ≤ j := hfw
        have hge : ∀ j, FpW tp mp Fm9 Gs j → w.heap.size ≤ j := fun j hj => by
          rcases hsrc j hj with (h1 | h1) | h1 | h1
          · have := HFM.out j h1; omega
          · have := HMP.out; omega
          · have := HGS.out j h1; omega
          · omega
        refine ⟨HC8.out.thenExt hc (fun j hj => .inr ?_), hts, HBF8.out.chg hc (fun k hk e => ?_), fun j hj e => ?_, hge, fun j hj => by have := HFT.out j hj; omega⟩
        · rcases hj with h1 | h1
          · have := HFM.out j h1; omega
          · have := HGS.out j h1; omega
        · have h7 := HFT.out k hk
          rcases e with h1 | h1
          · have := HM6.out.1 k h1; omega
          · have := HGS.out k h1; have := HBF.out.lt k hk; omega
        · have h7 := HFT.out j hj
          have h8 := HBF.out.lt j hj
          rcases hsrc j e with (h1 | h1) | h1 | h1
          · have := HM6.out.1 j h1; omega
          · have := HM6.out.2; omega
          · have := HGS.out j h1; omega
          · omega
      have hks9 := KS8.out.chg hc (fun e => by
        have y0 := Z0.out; have y1 := Z1.out; have y2 := Z2.out; have y3 := Z3.out
        have hl := KS7LT.out
        rcases e with h1 | h1
        · have := HFM.out _ h1; omega
        · have := HGS.out _ h1; omega)
      have HAH := Lib.hid hah; have KS9 := Lib.hid hks9
      clear hts hfw hc z4 hlt8 hah hks9 KS8 HM8 HBF8 HSK
      go_upto_region 15 with (fail)
      have hmm := @run_makeMap Tryz.prog
      refine wp_region_held_drew (S := fun w' => Blk w' B1 [.int .i64 (nc : Int), .int .i64 (np : Int), .int .i64 (ns : Int)] 23) (by kernel_rfl) KS9.out (fun hHeld => ?_)
      simp only [List.size_toArray, List.length_cons, List.length_nil, Nat.reduceAdd]
      rw [show Array.replicate 12 false = [false, false, false, false, false, false, false, false, false, false, false, false].toArray from rfl]
      refine wpAnyH_take (i := 0) (v := _) rfl (by kernel_rfl) (by kernel_rfl) (by kernel_rfl) (fun _ _ _ h => h) (Or.inl ⟨by rfl, fun w hSw => yield_shape _ _ _ rfl rfl hSw⟩) (by assumption) ?_
      try simp only [Act.put, List.setIfInBounds_toArray, List.set_cons_zero, List.set_cons_succ, List.getElem_toArray, List.getElem_cons_succ, List.getElem_cons_zero]
      refine wpAnyH_take (i := 1) (v := ?_) rfl (by kernel_rfl) (by kernel_rfl) (by kernel_rfl) (fun _ _ _ h => h) (Or.inl ⟨by rfl, ?yldq⟩) (by assumption) ?_
      case yldq => (intro w hSw; (try dsimp only at hSw); go_simp; try with_reducible rfl)
      try simp only [Act.put, List.setIfInBounds_toArray, List.set_cons_zero, List.set_cons_succ, List.getElem_toArray, List.getElem_cons_succ, List.getElem_cons_zero]
      refine wpAnyH_take (i := 2) (v := ?_) rfl (by kernel_rfl) (by kernel_rfl) (by kernel_rfl) (fun _ _ _ h => h) (Or.inl ⟨by rfl, ?yldq⟩) (by assumption) ?_
      case yldq => (intro w hSw; (try dsimp only at hSw); go_simp; try with_reducible rfl)
      try simp only [Act.put, List.setIfInBounds_toArray, List.set_cons_zero, List.set_cons_succ, List.getElem_toArray, List.getElem_cons_succ, List.getElem_cons_zero]
      refine wpAnyH_take (i := 3) (v := ?_) rfl (by kernel_rfl) (by kernel_rfl) (by kernel_rfl) (fun _ _ _ h => h) (Or.inl ⟨by rfl, ?yldq⟩) (by assumption) ?_
      case yldq => (intro w hSw; (try dsimp only at hSw); go_simp; try with_reducible rfl)
      try simp only [Act.put, List.setIfInBounds_toArray, List.set_cons_zero, List.set_cons_succ, List.getElem_toArray, List.getElem_cons_succ, List.getElem_cons_zero]
      refine wpAnyH_take (i := 4) (v := ?_) rfl (by kernel_rfl) (by kernel_rfl) (by kernel_rfl) (fun _ _ _ h => h) (Or.inl ⟨by rfl, ?yldq⟩) (by assumption) ?_
      case yldq => (intro w hSw; (try dsimp only at hSw); go_simp; try with_reducible rfl)
      try simp only [Act.put, List.setIfInBounds_toArray, List.set_cons_zero, List.set_cons_succ, List.getElem_toArray, List.getElem_cons_succ, List.getElem_cons_zero]
      refine wpAnyH_take (i := 5) (v := ?_) rfl (by kernel_rfl) (by kernel_rfl) (by kernel_rfl) (fun _ _ _ h => h) (Or.inl ⟨by rfl, ?yldq⟩) (by assumption) ?_
      case yldq => (intro w hSw; (try dsimp only at hSw); go_simp; try with_reducible rfl)
      try simp only [Act.put, List.setIfInBounds_toArray, List.set_cons_zero, List.set_cons_succ, List.getElem_toArray, List.getElem_cons_succ, List.getElem_cons_zero]
      refine wpAnyH_take (i := 6) (v := ?_) rfl (by kernel_rfl) (by kernel_rfl) (by kernel_rfl) (fun _ _ _ h => h) (Or.inl ⟨by rfl, ?yldq⟩) (by assumption) ?_
      case yldq => (intro w hSw; (try dsimp only at hSw); go_simp; try with_reducible rfl)
      try simp only [Act.put, List.setIfInBounds_toArray, List.set_cons_zero, List.set_cons_succ, List.getElem_toArray, List.getElem_cons_succ, List.getElem_cons_zero]
      refine wpAnyH_ready (rs := [7, 8]) (by kernel_rfl) (by simp) ?_
      refine AllReadyH.cons rfl (fun K hK => ?_) (AllReadyH.cons rfl (fun K hK => ?_) AllReadyH.nil)
      · go_simp
        refine (H6.out mp bp _).mono ?_
        rintro e w10 ⟨up, rfl, hup, hu, hb⟩
        have hb9 : Below w9.heap.size w9 w10 := (Below.refl w9.heap.size w9).drew.trans hb
        have HB10 := Lib.hid hb9; have HU := Lib.hid hu; have HUP := Lib.hid (show w9.heap.size ≤ up from hup)
        refine hK.out _ _ (KS9.out.below hb9 KS9.out.lt) (fun hS7 => ?_)
        clear hK K hb hb9 hu hup hHeld
        refine wpAnyH_ready (rs := [8]) (by kernel_rfl) (by simp) ?_
        refine AllReadyH.cons rfl (fun K hK => ?_) AllReadyH.nil
        go_simp
        obtain ⟨hb, hhb⟩ : ∃ x, x = w10.heap.size := ⟨_, rfl⟩
        obtain ⟨w11, hw11⟩ : ∃ x, x = w10.alloc (.map #[] 0) := ⟨_, rfl⟩
        rw [← hw11, ← hhb]
        have fu : Blk w11 up _ _ := hw11 ▸ HU.out.alloc _
        have fm : Mi w11 hb 0 (fun _ => none) := by rw [hw11, hhb]; exact Mi.made w10
        have fb : Below w9.heap.size w9 w11 := hw11 ▸ HB10.out.alloc HB10.out.size _
        have gb : w9.heap.size ≤ hb := hhb ▸ HB10.out.size
        have dn : up ≠ hb := by have := HU.out.lt; omega
        have FU := Lib.hid fu; have FM := Lib.hid fm; have FB := Lib.hid fb; have GB := Lib.hid gb; have DN := Lib.hid dn
        clear fu fm fb gb dn hhb hw11 HU HB10
        refine hK.out _ _ (KS9.out.below FB.out KS9.out.lt) (fun hS8 => ?_)
        clear hK K hS7
        refine wpAnyH_take (i := 9) (v := ?_) rfl (by kernel_rfl) (by kernel_rfl) (by kernel_rfl) (fun _ _ _ h => h) (Or.inl ⟨by rfl, ?yldq⟩) (by assumption) ?_
        case yldq => (intro w hSw; (try dsimp only at hSw); go_simp; try with_reducible rfl)
        try simp only [Act.put, List.setIfInBounds_toArray, List.set_cons_zero, List.set_cons_succ, List.getElem_toArray, List.getElem_cons_succ, List.getElem_cons_zero]
        refine wpAnyH_ready (rs := [10]) (by kernel_rfl) (by simp) ?_
        refine AllReadyH.cons rfl (fun K hK => ?_) AllReadyH.nil
        go_simp
        obtain ⟨xp, hxp⟩ : ∃ x, x = w11.heap.size := ⟨_, rfl⟩
        obtain ⟨w12, hw12⟩ : ∃ x, x = w11.alloc (.cells #[.int .i64 (nc : Int), .int .i64 (np : Int), .int .i64 (ns : Int), .pointer (some ⟨mp, 0, none⟩), .pointer (some ⟨sp, 0, none⟩), .pointer (some ⟨tp, 0, none⟩), .pointer (some ⟨bp, 0, none⟩), .pointer (some ⟨up, 0, none⟩), .slice none 0 0, .slice none 0 0, .map (some hb)] 98) := ⟨_, rfl⟩
        rw [← hw12, ← hxp]
        have fx : Blk w12 xp [.int .i64 (nc : Int), .int .i64 (np : Int), .int .i64 (ns : Int), .pointer (some ⟨mp, 0, none⟩), .pointer (some ⟨sp, 0, none⟩), .pointer (some ⟨tp, 0, none⟩), .pointer (some ⟨bp, 0, none⟩), .pointer (some ⟨up, 0, none⟩), .slice none 0 0, .slice none 0 0, .map (some hb)] 98 := by rw [hw12, hxp]; exact Blk.new w11 _ _
        have fu : Blk w12 up _ _ := hw12 ▸ FU.out.alloc _
        have fm : Mi w12 hb 0 (fun _ => none) := hw12 ▸ FM.out.chg (Chg.alloc no _ _) (fun h => h)
        have fb : Below w9.heap.size w9 w12 := hw12 ▸ FB.out.alloc FB.out.size _
        have gx : w9.heap.size ≤ xp := hxp ▸ FB.out.size
        have d2 : up ≠ xp := by have := FU.out.lt; omega
        have d3 : hb ≠ xp := by have := FM.out.lt; omega
        have hbeg := begin_of HAH.out fb fu fm fx HUP.out GB.out gx DN.out d2 d3 ⟨b1, b2⟩ b3 b4
        have HBEG := Lib.hid hbeg
        have KS12 := Lib.hid (KS9.out.below fb KS9.out.lt)
        clear fx fu fm fb gx d2 d3 hbeg hxp hw12 FU FM FB
        refine hK.out _ _ KS12.out (fun hS10 => ?_)
        clear hK K
        refine wpAnyH_take (i := 11) (v := ?_) rfl (by kernel_rfl) (by kernel_rfl) (by kernel_rfl) (fun _ _ _ h => h) (Or.inl ⟨by rfl, ?yldq⟩) (by assumption) ?_
        case yldq => (intro w hSw; (try dsimp only at hSw); go_simp; try with_reducible rfl)
        try simp only [Act.put, List.setIfInBounds_toArray, List.set_cons_zero, List.set_cons_succ, List.getElem_toArray, List.getElem_cons_succ, List.getElem_cons_zero]
        refine wpAnyH_done (by kernel_rfl) ?_ _
        clear hS10 KS12
        go_wp2_with fail
        refine HBEG.out.mono ?_
        rintro e w13 ⟨hc13, ⟨hlt, rfl⟩ | ⟨rfl, hle, P, F2, G2, C2, R2, S2, fr, hPx, hsp, hfp⟩⟩
        · have he : E = 50 := by rw [HEE.out, if_pos (by omega)]
          subst he
          have HC13 := Lib.hid hc13
          clear hc13 hlt
          go_wp2
          go_ret2
          exact ⟨HC13.out, .inl ⟨by decide, rfl⟩⟩
        · have he : E = 0 := by rw [HEE.out, if_neg (by omega)]
          subst he
          subst hPx
          have HC13 := Lib.hid hc13; have HSP := Lib.hid hsp; have HFP := Lib.hid hfp
          clear hc13 hle hsp hfp
          go_wp2
          go_ret2
          exact ⟨HC13.out, P, rfl, F2, G2, ⟨C2, R2, S2, fr, HSP.out⟩, HFP.out⟩
      · go_simp
        obtain ⟨hb, hhb⟩ : ∃ x, x = w9.heap.size := ⟨_, rfl⟩
        obtain ⟨w10, hw10⟩ : ∃ x, x = (w9.alloc (.map #[] 0)).drew := ⟨_, rfl⟩
        rw [← hw10, ← hhb]
        have fm : Mi w10 hb 0 (fun _ => none) := by rw [hw10, hhb]; exact (Mi.made w9).chg (Chg.drew no _) (fun h => h)
        have fb : Below w9.heap.size w9 w10 := hw10 ▸ ((Below.refl w9.heap.size w9).alloc (Nat.le_refl _) _).drew
        have hlt : hb < w10.heap.size := fm.lt
        have gb : w9.heap.size ≤ hb := Nat.le_of_eq hhb.symm
        have FB0 := Lib.hid fb; have FM0 := Lib.hid fm; have HLT := Lib.hid hlt; have GB := Lib.hid gb
        clear fm fb hlt gb hhb hw10 hHeld
        refine hK.out _ _ (KS9.out.below FB0.out KS9.out.lt) (fun hS8 => ?_)
        clear hK K
        refine wpAnyH_ready (rs := [7]) (by kernel_rfl) (by simp) ?_
        refine AllReadyH.cons rfl (fun K hK => ?_) AllReadyH.nil
        go_simp
        refine (H6.out mp bp _).mono ?_
        rintro e w11 ⟨up, rfl, hup, hu, hbb⟩
        have fb : Below w9.heap.size w9 w11 := FB0.out.trans (hbb.mono FB0.out.size)
        have fm : Mi w11 hb 0 (fun _ => none) := FM0.out.chg (Chg.of_below (F := no) hbb) (fun h => h)
        have FU := Lib.hid hu; have FM := Lib.hid fm; have FB := Lib.hid fb
        have HUP := Lib.hid (show w9.heap.size ≤ up from Nat.le_trans FB0.out.size hup)
        have dn : up ≠ hb := by have := HLT.out; omega
        have DN := Lib.hid dn
        clear hu fm fb hup hbb dn
        refine hK.out _ _ (KS9.out.below FB.out KS9.out.lt) (fun hS7 => ?_)
        clear hK K hS8
        refine wpAnyH_take (i := 9) (v := ?_) rfl (by kernel_rfl) (by kernel_rfl) (by kernel_rfl) (fun _ _ _ h => h) (Or.inl ⟨by rfl, ?yldq⟩) (by assumption) ?_
        case yldq => (intro w hSw; (try dsimp only at hSw); go_simp; try with_reducible rfl)
        try simp only [Act.put, List.setIfInBounds_toArray, List.set_cons_zero, List.set_cons_succ, List.getElem_toArray, List.getElem_cons_succ, List.getElem_cons_zero]
        refine wpAnyH_ready (rs := [10]) (by kernel_rfl) (by simp) ?_
        refine AllReadyH.cons rfl (fun K hK => ?_) AllReadyH.nil
        go_simp
        obtain ⟨xp, hxp⟩ : ∃ x, x = w11.heap.size := ⟨_, rfl⟩
        obtain ⟨w12, hw12⟩ : ∃ x, x = w11.alloc (.cells #[.int .i64 (nc : Int), .int .i64 (np : Int), .int .i64 (ns : Int), .pointer (some ⟨mp, 0, none⟩), .pointer (some ⟨sp, 0, none⟩), .pointer (some ⟨tp, 0, none⟩), .pointer (some ⟨bp, 0, none⟩), .pointer (some ⟨up, 0, none⟩), .slice none 0 0, .slice none 0 0, .map (some hb)] 98) := ⟨_, rfl⟩
        rw [← hw12, ← hxp]
        have fx : Blk w12 xp [.int .i64 (nc : Int), .int .i64 (np : Int), .int .i64 (ns : Int), .pointer (some ⟨mp, 0, none⟩), .pointer (some ⟨sp, 0, none⟩), .pointer (some ⟨tp, 0, none⟩), .pointer (some ⟨bp, 0, none⟩), .pointer (some ⟨up, 0, none⟩), .slice none 0 0, .slice none 0 0, .map (some hb)] 98 := by rw [hw12, hxp]; exact Blk.new w11 _ _
        have fu : Blk w12 up _ _ := hw12 ▸ FU.out.alloc _
        have fm : Mi w12 hb 0 (fun _ => none) := hw12 ▸ FM.out.chg (Chg.alloc no _ _) (fun h => h)
        have fb : Below w9.heap.size w9 w12 := hw12 ▸ FB.out.alloc FB.out.size _
        have gx : w9.heap.size ≤ xp := hxp ▸ FB.out.size
        have d2 : up ≠ xp := by have := FU.out.lt; omega
        have d3 : hb ≠ xp := by have := FM.out.lt; omega
        have hbeg := begin_of HAH.out fb fu fm fx HUP.out GB.out gx DN.out d2 d3 ⟨b1, b2⟩ b3 b4
        have HBEG := Lib.hid hbeg
        have KS12 := Lib.hid (KS9.out.below fb KS9.out.lt)
        clear fx fu fm fb gx d2 d3 hbeg hxp hw12 FU FM FB
        refine hK.out _ _ KS12.out (fun hS10 => ?_)
        clear hK K
        refine wpAnyH_take (i := 11) (v := ?_) rfl (by kernel_rfl) (by kernel_rfl) (by kernel_rfl) (fun _ _ _ h => h) (Or.inl ⟨by rfl, ?yldq⟩) (by assumption) ?_
        case yldq => (intro w hSw; (try dsimp only at hSw); go_simp; try with_reducible rfl)
        try simp only [Act.put, List.setIfInBounds_toArray, List.set_cons_zero, List.set_cons_succ, List.getElem_toArray, List.getElem_cons_succ, List.getElem_cons_zero]
        refine wpAnyH_done (by kernel_rfl) ?_ _
        clear hS10 KS12
        go_wp2_with fail
        refine HBEG.out.mono ?_
        rintro e w13 ⟨hc13, ⟨hlt, rfl⟩ | ⟨rfl, hle, P, F2, G2, C2, R2, S2, fr, hPx, hsp, hfp⟩⟩
        · have he : E = 50 := by rw [HEE.out, if_pos (by omega)]
          subst he
          have HC13 := Lib.hid hc13
          clear hc13 hlt
          go_wp2
          go_ret2
          exact ⟨HC13.out, .inl ⟨by decide, rfl⟩⟩
        · have he : E = 0 := by rw [HEE.out, if_neg (by omega)]
          subst he
          subst hPx
          have HC13 := Lib.hid hc13; have HSP := Lib.hid hsp; have HFP := Lib.hid hfp
          clear hc13 hle hsp hfp
          go_wp2
          go_ret2
          exact ⟨HC13.out, P, rfl, F2, G2, ⟨C2, R2, S2, fr, HSP.out⟩, HFP.out⟩
end Go.Proofs.YtgnjbjbgfhjakaaGreat
