/-
  A page that was mapped, found, and taken away again: what the tables' functions make of it. No function of the program stands here.
-/
import Derived.Test.YtdakfgefnapglaaSort13
namespace Go.Proofs.Ytdakfgefnapglaa
open Go.RowKit
set_option linter.unusedVariables false
set_option linter.unusedSimpArgs false

section
variable {first n fs va lv : Nat} {e : Ent}
theorem takE_ne {used : Nat} (h : takE first n fs used ≠ 0) : takE first n fs used ≠ 0 := h
theorem desc_err : ∀ k S, (desc first n fs va lv e k S).2 ≠ 0 → (desc first n fs va lv e k S).1.L = S.L
  | 0, S => by
    unfold desc
    split
    · exact fun _ => rfl
    · intro h; exact absurd rfl h
  | k + 1, S => by
    rw [desc]
    split
    · exact fun _ => rfl
    split
    · exact desc_err k S
    split
    · exact desc_err k _
    · exact fun _ => rfl
theorem desc_ok : ∀ k S, (desc first n fs va lv e k S).2 = 0 → (desc first n fs va lv e k S).1.L = S.L ++ [⟨bas va lv, lv, e⟩]
  | 0, S => by
    unfold desc
    split
    · intro h; exact absurd (show (130 : Int) = 0 from h) (by decide)
    · exact fun _ => rfl
  | k + 1, S => by
    rw [desc]
    split
    · intro h; exact absurd (show (130 : Int) = 0 from h) (by decide)
    split
    · exact desc_ok k S
    split
    · exact desc_ok k _
    · rename_i h; intro h2; exact absurd h2 h
end
theorem mapT_err {first n fs va : Nat} {l : Int} {e : Ent} {S : Tt} (h : (mapT first n fs va l e S).2 ≠ 0) : (mapT first n fs va l e S).1.L = S.L := by
  unfold mapT at h ⊢
  split
  · rename_i hc
    rw [if_pos hc] at h
    exact desc_err _ _ h
  · rfl
theorem mapT_ok {first n fs va : Nat} {l : Int} {e : Ent} {S : Tt} (h : (mapT first n fs va l e S).2 = 0) : canN va = true ∧ mayE e l = true ∧ (mapT first n fs va l e S).1.L = S.L ++ [⟨bas va l.toNat, l.toNat, e⟩] := by
  unfold mapT at h ⊢
  split
  · rename_i hc
    rw [if_pos hc] at h
    rw [Bool.and_eq_true] at hc
    exact ⟨hc.1, hc.2, desc_ok _ _ h⟩
  · rename_i hc
    rw [if_neg hc] at h
    exact absurd (show (2 : Int) = 0 from h) (by decide)
section
variable {first fs : Nat} {M : Nat → Nat} {S : Tt}
/-- an address is in pages of one level alone -/
theorem one_low (h : RT first fs M S) {va l k : Nat} {m : Pg} (hk : k < 3) (hlk : l < k) (hp : pg S.L va k = some m) : pg S.L va l = none := by
  have hn := pg_no_kid h hk hp
  obtain ⟨j, rfl⟩ : ∃ j, k = j + 1 := ⟨k - 1, by omega⟩
  have ht := kid_none hn
  rcases (show j = l ∨ (j = 1 ∧ l = 0) from by omega) with rfl | ⟨rfl, rfl⟩
  · exact no_pg h (by omega) ht
  · exact no_pg h (by omega) (no_tab h ht)
theorem one_lv (h : RT first fs M S) {va l k : Nat} {m m' : Pg} (hl : l < 3) (hk : k < 3) (h1 : pg S.L va l = some m) (h2 : pg S.L va k = some m') : l = k := by
  rcases Nat.lt_trichotomy l k with hlt | he | hgt
  · rw [one_low h hk hlt h2] at h1; cases h1
  · exact he
  · rw [one_low h hl hgt h1] at h2; cases h2
theorem hold_of (h : RT first fs M S) {va l : Nat} {m : Pg} (hc : canN va = true) (hl : l < 3) (hp : pg S.L va l = some m) : holdP S.L va = some m := by
  unfold holdP
  rw [if_pos hc]
  have ho : ∀ k, k < 3 → k ≠ l → pg S.L va k = none := fun k hk hne => by
    cases hq : pg S.L va k with
    | none => rfl
    | some q => exact absurd (one_lv h hk hl hq hp) hne
  rcases (show l = 0 ∨ l = 1 ∨ l = 2 from by omega) with rfl | rfl | rfl
  · rw [hp]; rfl
  · rw [ho 0 (by omega) (by omega), hp]; rfl
  · rw [ho 0 (by omega) (by omega), ho 1 (by omega) (by omega), hp]; rfl
theorem hold_is {L : List Pg} {va : Nat} {m : Pg} (h : holdP L va = some m) : canN va = true ∧ ∃ l, l < 3 ∧ pg L va l = some m := by
  unfold holdP at h
  split at h
  · rename_i hc
    refine ⟨hc, ?_⟩
    rcases Option.or_eq_some_iff.1 h with h | ⟨_, h⟩
    · exact ⟨0, by omega, h⟩
    rcases Option.or_eq_some_iff.1 h with h | ⟨_, h⟩
    · exact ⟨1, by omega, h⟩
    · exact ⟨2, by omega, h⟩
  · cases h
/-- the page of a key, among pages of unlike keys -/
theorem pg_of_mem (h : RT first fs M S) {va l : Nat} {m : Pg} (hm : m ∈ S.L) (hp : isP va l m = true) : pg S.L va l = some m := by
  cases hq : pg S.L va l with
  | none => exact absurd (List.find?_eq_none.1 hq m hm) (by rw [hp]; simp)
  | some q =>
    obtain ⟨hqm, _, _⟩ := pg_mem hq
    have hqp := List.find?_some hq
    obtain ⟨i, hi, rfl⟩ := List.getElem_of_mem hqm
    obtain ⟨j, hj, rfl⟩ := List.getElem_of_mem hm
    by_cases hij : i = j
    · subst hij; rfl
    · have := nodup_ne h.uniqL (i := i) (j := j) (by simpa using hi) (by simpa using hj) hij
      rw [List.getElem_map, List.getElem_map, keyP_iff.1 hqp, keyP_iff.1 hp] at this
      exact absurd rfl this
end
section
variable {first n fs : Nat} {M M' : Nat → Nat} {S S' : Tt} {va lv b : Nat} {e : Ent}
/-- the page that was mapped last holds every address of it -/
theorem mapped_hold (h' : RT first fs M' S') (hL : S'.L = S.L ++ [⟨bas va lv, lv, e⟩]) (hlv : lv < 3) (hc : canN b = true) (hb : bas b lv = bas va lv) : pg S'.L b lv = some ⟨bas va lv, lv, e⟩ ∧ holdP S'.L b = some ⟨bas va lv, lv, e⟩ := by
  have hp := pg_of_mem h' (va := b) (l := lv) (m := ⟨bas va lv, lv, e⟩) (by rw [hL]; simp) (isP_iff.2 ⟨rfl, hb.symm⟩)
  exact ⟨hp, hold_of h' hc hlv hp⟩
theorem mapped_again (h' : RT first fs M' S') (hlv : lv < 3) {m : Pg} (hp : pg S'.L b lv = some m) : ∀ k, lv + k ≤ 2 → (desc first n fs b lv e k S') = (S', 130)
  | 0, _ => by
    have hs : (pagI S'.L b lv).isSome = true := by
      cases hq : pagI S'.L b lv with
      | none => rw [show pg S'.L b lv = none from idx_none.1 hq] at hp; cases hp
      | some q => rfl
    unfold desc
    rw [hs, Bool.true_or, if_pos rfl]
  | k + 1, hk => by
    have hno : pagI S'.L b (lv + k + 1) = none := by
      cases hq : pagI S'.L b (lv + k + 1) with
      | none => rfl
      | some q =>
        obtain ⟨_, _, hf⟩ := idx_some hq
        have := one_lv h' hlv (show lv + k + 1 < 3 from by omega) hp hf
        omega
    have hm := pg_mem hp
    obtain ⟨_, _, hbm, _, hpar⟩ := h'.pagesOk m hm.1
    obtain ⟨x, hx, hxt⟩ := hpar (by omega)
    rw [hm.2.1, isT_congr (show bas m.va (lv + 1) = bas b (lv + 1) from by rw [hm.2.2, bas_bas (by omega)])] at hxt
    have ht : S'.T.any (isT b (lv + k)) = true := by
      rcases (show k = 0 ∨ (lv = 0 ∧ k = 1) from by omega) with rfl | ⟨rfl, rfl⟩
      · exact List.any_eq_true.2 ⟨x, hx, hxt⟩
      · obtain ⟨q1, q2⟩ := isT_iff.1 hxt
        obtain ⟨_, _, _, _, hp2⟩ := h'.tabsOk x hx
        obtain ⟨y, hy, hyt⟩ := hp2 q1
        rw [q2, isT_congr (show bas (bas b 1) 2 = bas b 2 from bas_bas (by omega))] at hyt
        exact List.any_eq_true.2 ⟨y, hy, hyt⟩
    rw [desc_stepF, hno, ht, mapped_again h' hlv hp k (by omega)]
    rfl
where
  desc_stepF {first n fs va lv k : Nat} {e : Ent} {S : Tt} : desc first n fs va lv e (k + 1) S = if (pagI S.L va (lv + k + 1)).isSome then (S, 130) else if S.T.any (isT va (lv + k)) then desc first n fs va lv e k S
    else if takE first n fs S.used = 0 then desc first n fs va lv e k ⟨S.L, S.T ++ [⟨lv + k, bas va (lv + k + 1)⟩], S.used + 1⟩ else (S, takE first n fs S.used) := by rw [desc]
/-- it is there no more behind its being taken away -/
theorem mapped_unmap (h' : RT first fs M' S') (hL : S'.L = S.L ++ [⟨bas va lv, lv, e⟩]) (hlv : lv < 3) (hc : canN b = true) (hb : bas b lv = bas va lv) : unmT b S' = (⟨S.L, S'.T, S'.used⟩, e, 0) := by
  obtain ⟨hp, hh⟩ := mapped_hold h' hL hlv hc hb
  have hm : (hold S'.L b).map (entOf S'.L) = holdP S'.L b := by
    unfold hold holdP
    have fm : ∀ l, (pagI S'.L b l).map (entOf S'.L) = pg S'.L b l := fun l => by
      unfold pg pagI
      rw [find_idx]
      cases h : S'.L.findIdx? (isP b l) with
      | none => rfl
      | some k =>
        obtain ⟨hk, _, _⟩ := List.findIdx?_eq_some_iff_getElem.1 h
        show some (entOf S'.L k) = S'.L[k]?
        rw [entOf_at hk, List.getElem?_eq_getElem hk]
    have om : ∀ (a c : Option Nat), (a.or c).map (entOf S'.L) = (a.map (entOf S'.L)).or (c.map (entOf S'.L)) := fun a c => by cases a <;> rfl
    rw [if_pos hc, if_pos hc, om, om, fm, fm, fm]
  rw [hh] at hm
  obtain ⟨i, hi, hie⟩ := Option.map_eq_some_iff.1 hm
  have hil := hold_lt hi
  have hlen : S'.L.length = S.L.length + 1 := by rw [hL]; simp
  have hie2 := hie
  rw [entOf_at hil] at hie2
  have hidx : i = S.L.length := by
    by_cases h2 : i = S.L.length
    · exact h2
    · have h3 := nodup_ne h'.uniqL (i := i) (j := S.L.length) (by simpa using hil) (by simp; omega) h2
      rw [List.getElem_map, List.getElem_map, hie2] at h3
      have h4 : S'.L[S.L.length]'(by omega) = ⟨bas va lv, lv, e⟩ := by
        simp only [hL]
        rw [List.getElem_append_right (Nat.le_refl _)]
        simp
      rw [h4] at h3
      exact absurd rfl h3
  unfold unmT
  rw [hi]
  dsimp only
  rw [hie]
  have he : S'.L.eraseIdx i = S.L := by
    rw [hidx, hL, List.eraseIdx_eq_take_drop_succ, List.take_left, List.drop_eq_nil_of_le (by simp), List.append_nil]
  rw [he]
/-- nothing held the address ahead -/
theorem mapped_before (h' : RT first fs M' S') (hL : S'.L = S.L ++ [⟨bas va lv, lv, e⟩]) (hlv : lv < 3) (hc : canN va = true) : holdP S.L va = none := by
  cases hq : holdP S.L va with
  | none => rfl
  | some m0 =>
    obtain ⟨_, l, hl, hp⟩ := hold_is hq
    obtain ⟨hm0, hk1, hk2⟩ := pg_mem hp
    have h1 := pg_of_mem h' (va := va) (l := l) (m := m0) (by rw [hL]; exact List.mem_append_left _ hm0) (isP_iff.2 ⟨hk1, hk2⟩)
    obtain ⟨h2, _⟩ := mapped_hold h' hL hlv hc rfl
    have := one_lv h' hl hlv h1 h2
    subst this
    have hn := h'.uniqL
    rw [hL, List.map_append, List.nodup_append] at hn
    have := hn.2.2 (keyP m0) (List.mem_map_of_mem hm0) (keyP ⟨bas va l, l, e⟩) (by simp)
    exact absurd (show keyP m0 = keyP ⟨bas va l, l, e⟩ from by unfold keyP; rw [hk1, hk2]) this
end
end Go.Proofs.Ytdakfgefnapglaa
