/-
  What is laid in the tables' memory, and that it has the tables still. No function of the program stands here.
-/
import Derived.Test.YtdakfgefnapglaaTab13
namespace Go.Proofs.Ytdakfgefnapglaa
open Go.RowKit
set_option linter.unusedVariables false
set_option linter.unusedSimpArgs false

theorem find_set {α : Type} {p : α → Bool} {x : α} (hx : p x = false) : ∀ (l : List α) (i : Nat) (h : i < l.length), p l[i] = false → (l.set i x).find? p = l.find? p
  | [], i, h, _ => by simp at h
  | a :: l, 0, h, hp => by
    have hp : p a = false := hp
    simp [List.find?_cons, hx, hp]
  | a :: l, i + 1, h, hp => by
    have hp : p (l[i]'(by simpa using h)) = false := by simpa using hp
    have ih := find_set hx l i (by simpa using h) hp
    simp only [List.set_cons_succ, List.find?_cons, ih]
theorem find_set_at {α : Type} {p : α → Bool} {x : α} (hx : p x = true) : ∀ (l : List α) (i : Nat), l.findIdx? p = some i → (l.set i x).find? p = some x
  | [], i, h => by simp at h
  | a :: l, i, h => by
    rw [List.findIdx?_cons] at h
    by_cases ha : p a = true
    · rw [if_pos ha] at h
      injection h with h
      subst h
      simp [List.find?_cons, hx]
    · rw [if_neg ha] at h
      obtain ⟨k, hk, rfl⟩ := Option.map_eq_some_iff.1 h
      have ih := find_set_at hx l k hk
      simp only [List.set_cons_succ, List.find?_cons, ih, ha]
theorem find_erase {α : Type} {p : α → Bool} : ∀ (l : List α) (i : Nat) (h : i < l.length), p l[i] = false → (l.eraseIdx i).find? p = l.find? p
  | [], i, h, _ => by simp at h
  | a :: l, 0, h, hp => by
    have hp : p a = false := hp
    simp [List.find?_cons, hp]
  | a :: l, i + 1, h, hp => by
    have hp : p (l[i]'(by simpa using h)) = false := by simpa using hp
    have ih := find_erase l i (by simpa using h) hp
    simp only [List.eraseIdx_cons_succ, List.find?_cons, ih]
theorem nodup_ne {α : Type} {l : List α} (h : l.Nodup) {i j : Nat} (hi : i < l.length) (hj : j < l.length) (hne : i ≠ j) : l[i] ≠ l[j] := by
  rcases Nat.lt_or_gt_of_ne hne with h1 | h1
  · exact List.pairwise_iff_getElem.1 h i j hi hj h1
  · exact (List.pairwise_iff_getElem.1 h j i hj hi h1).symm
theorem nodup_app {α : Type} {l : List α} {a : α} (h : l.Nodup) (ha : a ∉ l) : (l ++ [a]).Nodup := by
  rw [List.nodup_append]
  exact ⟨h, by simp, fun x hx y hy => by simp at hy; subst hy; intro e; exact ha (e ▸ hx)⟩
section
variable {first fs : Nat} {M M' : Nat → Nat} {S : Tt}
theorem place_eq {f g i j : Nat} (hi : i < 512) (hj : j < 512) (h : f * 4096 + 8 * i = g * 4096 + 8 * j) : f = g ∧ i = j := by omega
theorem place_8 (f i : Nat) : (f * 4096 + 8 * i) % 8 = 0 := by omega
theorem place_frame (f : Nat) {i : Nat} (h : i < 512) : (f * 4096 + 8 * i) / 4096 = f := by omega
theorem keyP_iff {va l : Nat} {m : Pg} : isP va l m = true ↔ keyP m = (l, bas va l) := by
  rw [isP_iff]; unfold keyP
  constructor
  · rintro ⟨h1, h2⟩; rw [h1, h2]
  · intro h; injection h with h1 h2; exact ⟨h1, h2⟩
theorem keyB_iff {va l : Nat} {x : Tb} : isT va l x = true ↔ keyB x = (l, bas va (l + 1)) := by
  rw [isT_iff]; unfold keyB
  constructor
  · rintro ⟨h1, h2⟩; rw [h1, h2]
  · intro h; injection h with h1 h2; exact ⟨h1, h2⟩
/-- a page's entry is laid: the words -/
theorem words_page (h : RT first fs M S) {va l f v : Nat} {L' : List Pg} (hc : canN va = true) (hl : l < 3) (hf : frmT first S.T va l = some f) (hv : M' (f * 4096 + 8 * fld va (12 + 9 * l) 9) = v)
    (ho : ∀ a, a % 8 = 0 → a ≠ f * 4096 + 8 * fld va (12 + 9 * l) 9 → M' a = M a) (hs : slotW first L' S.T va l = v)
    (hp : ∀ b k, canN b = true → k < 3 → ¬ (k = l ∧ bas b l = bas va l) → pg L' b k = pg S.L b k) :
    ∀ b k g, canN b = true → k < 3 → frmT first S.T b k = some g → M' (g * 4096 + 8 * fld b (12 + 9 * k) 9) = slotW first L' S.T b k := by
  intro b k g hb hk hg
  by_cases he : k = l ∧ bas b l = bas va l
  · obtain ⟨rfl, he⟩ := he
    rw [frm_congr (bas_up he (Nat.le_succ k)), hf] at hg
    replace hg := Option.some.inj hg
    rw [← hg, fld_bas he, hv, slot_congr he, hs]
  · have hne : g * 4096 + 8 * fld b (12 + 9 * k) 9 ≠ f * 4096 + 8 * fld va (12 + 9 * l) 9 := by
      intro e
      obtain ⟨e1, e2⟩ := place_eq (fld9 b k) (fld9 va l) e
      rw [e1] at hg
      obtain ⟨e3, e4⟩ := slot_inj hb hc hk hl hg hf e2
      subst e3
      exact he ⟨rfl, e4⟩
    rw [ho _ (place_8 _ _) hne, h.words b k g hb hk hg]
    unfold slotW
    rw [hp b k hb hk he]
/-- a page's table is there -/
theorem tab_there {T : List Tb} {va l f : Nat} (hl : l < 2) (hf : frmT first T va l = some f) : ∃ x ∈ T, isT va l x = true := by
  unfold frmT at hf
  rw [if_neg (by omega)] at hf
  obtain ⟨k, hk, _⟩ := Option.map_eq_some_iff.1 hf
  obtain ⟨hk, hx, _⟩ := List.findIdx?_eq_some_iff_getElem.1 hk
  exact ⟨_, List.getElem_mem hk, hx⟩
theorem isP_ne {b k va l : Nat} {e : Ent} (h : ¬ (k = l ∧ bas b l = bas va l)) : isP b k ⟨bas va l, l, e⟩ = false := by
  cases hh : isP b k ⟨bas va l, l, e⟩ with
  | false => rfl
  | true =>
    obtain ⟨h1, h2⟩ := isP_iff.1 hh
    dsimp only at h1 h2
    subst h1
    exact absurd ⟨rfl, h2.symm⟩ h
/-- a page is mapped -/
theorem RT.addPage (h : RT first fs M S) {va l f : Nat} {e : Ent} (hc : canN va = true) (hva : va < 18446744073709551616) (hl : l < 3) (hf : frmT first S.T va l = some f) (hm : mayE e l = true)
    (hk : kid first S.T va l = none) (hp : pg S.L va l = none) (hv : M' (f * 4096 + 8 * fld va (12 + 9 * l) 9) = wordE e)
    (ho : ∀ a, a % 8 = 0 → a ≠ f * 4096 + 8 * fld va (12 + 9 * l) 9 → M' a = M a) : RT first fs M' ⟨S.L ++ [⟨bas va l, l, e⟩], S.T, S.used⟩ := by
  have hnew : isP va l ⟨bas va l, l, e⟩ = true := isP_iff.2 ⟨rfl, rfl⟩
  have hpn : pg (S.L ++ [⟨bas va l, l, e⟩]) va l = some ⟨bas va l, l, e⟩ := find_new hp hnew
  refine ⟨words_page h hc hl hf hv ho ?_ ?_, h.used, h.fits, h.most, ?_, h.tabsOk, ?_, ?_, h.uniqT⟩
  · unfold slotW; rw [hk, hpn]
  · intro b k hb hk2 hne
    exact find_app (isP_ne hne)
  · intro m hmm
    rcases List.mem_append.1 hmm with hmm | hmm
    · exact h.pagesOk m hmm
    · rw [List.mem_singleton] at hmm
      subst hmm
      refine ⟨Nat.lt_of_le_of_lt (bas_le va l) hva, (bas_can hl).trans hc, bas_bas (Nat.le_refl l), hm, fun h2 => ?_⟩
      obtain ⟨x, hx, hxt⟩ := tab_there h2 hf
      exact ⟨x, hx, by rw [isT_congr (bas_bas (Nat.le_succ l))]; exact hxt⟩
  · intro m hmm x hx hlv
    rcases List.mem_append.1 hmm with hmm | hmm
    · exact h.excl m hmm x hx hlv
    · rw [List.mem_singleton] at hmm
      subst hmm
      dsimp only at hlv ⊢
      subst hlv
      intro hv
      exact absurd (kid_none hk) (tab_of_idx hx (isT_iff.2 ⟨rfl, hv.symm⟩))
  · rw [List.map_append]
    refine nodup_app h.uniqL ?_
    intro hm2
    obtain ⟨m, hm3, hkey⟩ := List.mem_map.1 hm2
    have : isP va l m = true := keyP_iff.2 hkey
    have h2 := List.find?_eq_none.1 hp m hm3
    exact h2 this
/-- the page that an index tells -/
theorem idx_page (h : RT first fs M S) {va l i : Nat} (hi : pagI S.L va l = some i) : ∃ hk : i < S.L.length, isP va l S.L[i] = true ∧ pg S.L va l = some S.L[i] ∧ (∀ j (hj : j < S.L.length), j ≠ i → isP va l S.L[j] = false) := by
  obtain ⟨hk, hp, hf⟩ := idx_some hi
  refine ⟨hk, hp, hf, fun j hj hne => ?_⟩
  cases hh : isP va l S.L[j] with
  | false => rfl
  | true =>
    have e1 := keyP_iff.1 hp
    have e2 := keyP_iff.1 hh
    have := nodup_ne h.uniqL (i := j) (j := i) (by simpa using hj) (by simpa using hk) hne
    rw [List.getElem_map, List.getElem_map, e1, e2] at this
    exact absurd rfl this
/-- a page's entry is changed -/
theorem RT.change (h : RT first fs M S) {va l f i : Nat} {e : Ent} (hc : canN va = true) (hl : l < 3) (hf : frmT first S.T va l = some f) (hm : mayE e l = true)
    (hi : pagI S.L va l = some i) (hv : M' (f * 4096 + 8 * fld va (12 + 9 * l) 9) = wordE e)
    (ho : ∀ a, a % 8 = 0 → a ≠ f * 4096 + 8 * fld va (12 + 9 * l) 9 → M' a = M a) : RT first fs M' ⟨S.L.set i ⟨bas va l, l, e⟩, S.T, S.used⟩ := by
  obtain ⟨hk, hp, hpg, hu⟩ := idx_page h hi
  have hnew : isP va l ⟨bas va l, l, e⟩ = true := isP_iff.2 ⟨rfl, rfl⟩
  have hpn : pg (S.L.set i ⟨bas va l, l, e⟩) va l = some ⟨bas va l, l, e⟩ := find_set_at hnew S.L i hi
  have hkid := pg_no_kid h hl hpg
  obtain ⟨o1, o2⟩ := isP_iff.1 hp
  have hmem : ∀ m ∈ S.L.set i ⟨bas va l, l, e⟩, m ∈ S.L ∨ m = ⟨bas va l, l, e⟩ := fun m hm => List.mem_or_eq_of_mem_set hm
  refine ⟨words_page h hc hl hf hv ho ?_ ?_, h.used, h.fits, h.most, ?_, h.tabsOk, ?_, ?_, h.uniqT⟩
  · unfold slotW; rw [hkid, hpn]
  · intro b k hb hk2 hne
    refine find_set (isP_ne hne) S.L i hk ?_
    cases hh : isP b k S.L[i] with
    | false => rfl
    | true =>
      obtain ⟨q1, q2⟩ := isP_iff.1 hh
      have e1 : k = l := q1.symm.trans o1
      subst e1
      exact absurd ⟨rfl, q2.symm.trans o2⟩ hne
  · intro m hmm
    rcases hmem m hmm with hmm | rfl
    · exact h.pagesOk m hmm
    · obtain ⟨p1, p2, p3, p4, p5⟩ := h.pagesOk _ (List.getElem_mem hk)
      rw [o2, o1] at p3
      rw [o2] at p1 p2 p5
      rw [o1] at p5
      exact ⟨p1, p2, p3, hm, p5⟩
  · intro m hmm x hx hlv
    rcases hmem m hmm with hmm | rfl
    · exact h.excl m hmm x hx hlv
    · have := h.excl _ (List.getElem_mem hk) x hx (o1.trans hlv)
      rw [o2] at this
      exact this
  · have e9 : (S.L.set i ⟨bas va l, l, e⟩).map keyP = S.L.map keyP := by
      rw [List.map_set]
      have : keyP ⟨bas va l, l, e⟩ = (S.L.map keyP)[i]'(by simpa using hk) := by
        rw [List.getElem_map, keyP_iff.1 hp]; rfl
      rw [this, List.set_getElem_self]
    show ((S.L.set i ⟨bas va l, l, e⟩).map keyP).Nodup
    rw [e9]; exact h.uniqL
/-- a page's entry is taken away -/
theorem RT.remove (h : RT first fs M S) {va l f i : Nat} (hc : canN va = true) (hl : l < 3) (hf : frmT first S.T va l = some f)
    (hi : pagI S.L va l = some i) (hv : M' (f * 4096 + 8 * fld va (12 + 9 * l) 9) = 0)
    (ho : ∀ a, a % 8 = 0 → a ≠ f * 4096 + 8 * fld va (12 + 9 * l) 9 → M' a = M a) : RT first fs M' ⟨S.L.eraseIdx i, S.T, S.used⟩ := by
  obtain ⟨hk, hp, hpg, hu⟩ := idx_page h hi
  have hkid := pg_no_kid h hl hpg
  obtain ⟨o1, o2⟩ := isP_iff.1 hp
  have hmem : ∀ m ∈ S.L.eraseIdx i, m ∈ S.L := fun m hm => List.mem_of_mem_eraseIdx hm
  have hpn : pg (S.L.eraseIdx i) va l = none := by
    refine List.find?_eq_none.2 fun m hm => ?_
    obtain ⟨j, hj, hne, rfl⟩ := List.mem_eraseIdx_iff_getElem.1 hm
    rw [hu j hj hne]
    simp
  refine ⟨words_page h hc hl hf hv ho ?_ ?_, h.used, h.fits, h.most, fun m hmm => h.pagesOk m (hmem m hmm), h.tabsOk, fun m hmm => h.excl m (hmem m hmm), ?_, h.uniqT⟩
  · unfold slotW; rw [hkid, hpn]
  · intro b k hb hk2 hne
    refine find_erase S.L i hk ?_
    cases hh : isP b k S.L[i] with
    | false => rfl
    | true =>
      obtain ⟨q1, q2⟩ := isP_iff.1 hh
      have e1 : k = l := q1.symm.trans o1
      subst e1
      exact absurd ⟨rfl, q2.symm.trans o2⟩ hne
  · exact h.uniqL.sublist ((List.eraseIdx_sublist S.L i).map keyP)
/-- a table is laid -/
theorem RT.addTable (h : RT first fs M S) {va l f : Nat} (hc : canN va = true) (hva : va < 18446744073709551616) (hl : l < 2) (hf : frmT first S.T va (l + 1) = some f)
    (ht : tabI S.T va l = none) (hp : pg S.L va (l + 1) = none) (hfit : first + S.used < fs)
    (hv : M' (f * 4096 + 8 * fld va (12 + 9 * (l + 1)) 9) = 1 + 1024 * (first + S.used)) (hz : ∀ a, a % 8 = 0 → a / 4096 = first + S.used → M' a = 0)
    (ho : ∀ a, a % 8 = 0 → a ≠ f * 4096 + 8 * fld va (12 + 9 * (l + 1)) 9 → a / 4096 ≠ first + S.used → M' a = M a) :
    RT first fs M' ⟨S.L, S.T ++ [⟨l, bas va (l + 1)⟩], S.used + 1⟩ ∧ frmT first (S.T ++ [⟨l, bas va (l + 1)⟩]) va l = some (first + S.used) := by
  have hu := h.used
  have hnt : isT va l ⟨l, bas va (l + 1)⟩ = true := isT_iff.2 ⟨rfl, rfl⟩
  have hnew : ∀ b, bas b (l + 1) = bas va (l + 1) → tabI (S.T ++ [⟨l, bas va (l + 1)⟩]) b l = some S.T.length := fun b hb => by
    rw [tab_congr hb]; exact idx_new ht hnt
  have hold : ∀ b k, ¬ (k = l ∧ bas b (l + 1) = bas va (l + 1)) → tabI (S.T ++ [⟨l, bas va (l + 1)⟩]) b k = tabI S.T b k := fun b k hne => by
    refine idx_app ?_
    cases hh : isT b k ⟨l, bas va (l + 1)⟩ with
    | false => rfl
    | true =>
      obtain ⟨q1, q2⟩ := isT_iff.1 hh
      dsimp only at q1 q2
      subst q1
      exact absurd ⟨rfl, q2.symm⟩ hne
  have hfrm : frmT first (S.T ++ [⟨l, bas va (l + 1)⟩]) va l = some (first + S.used) := by
    unfold frmT
    rw [if_neg (by omega), hnew va rfl]
    show some (first + 1 + S.T.length) = _
    rw [hu]; congr 1; omega
  refine ⟨⟨?_, ?_, ?_, h.most, ?_, ?_, ?_, h.uniqL, ?_⟩, hfrm⟩
  · intro b k g hb hk hg
    dsimp only at hg ⊢
    by_cases he : k = l ∧ bas b (l + 1) = bas va (l + 1)
    · obtain ⟨rfl, he⟩ := he
      have hg2 : g = first + S.used := by
        rw [frm_congr he, hfrm] at hg
        injection hg with hg
        exact hg.symm
      rw [hz _ (place_8 _ _) (by rw [place_frame _ (fld9 b k), hg2])]
      have tb : tabI S.T b k = none := by rw [tab_congr he]; exact ht
      have pb := no_pg h hl tb
      have kb : kid first (S.T ++ [⟨k, bas va (k + 1)⟩]) b k = none := by
        cases k with
        | zero => rfl
        | succ k =>
          obtain rfl : k = 0 := by omega
          show (tabI _ b 0).map _ = none
          rw [hold b 0 (by rintro ⟨e, _⟩; cases e), no_tab h tb]
          rfl
      unfold slotW
      rw [kb, pb]
    · have hg0 : frmT first S.T b k = some g := by
        unfold frmT at hg ⊢
        rw [hold b k he] at hg
        exact hg
      have hglt := frm_lt h hg0
      by_cases hat : g * 4096 + 8 * fld b (12 + 9 * k) 9 = f * 4096 + 8 * fld va (12 + 9 * (l + 1)) 9
      · obtain ⟨e1, e2⟩ := place_eq (fld9 b k) (fld9 va (l + 1)) hat
        obtain ⟨e3, e4⟩ := slot_inj hb hc hk (by omega) (e1 ▸ hg0) hf e2
        rw [hat, hv]
        subst e3
        have kb : kid first (S.T ++ [⟨l, bas va (l + 1)⟩]) b (l + 1) = some (first + S.used) := by
          show (tabI _ b l).map _ = _
          rw [hnew b e4]
          show some (first + 1 + S.T.length) = _
          rw [hu]; congr 1; omega
        unfold slotW
        rw [kb]
      · rw [ho _ (place_8 _ _) hat (by rw [place_frame _ (fld9 b k)]; omega), h.words b k g hb hk hg0]
        have kb : kid first (S.T ++ [⟨l, bas va (l + 1)⟩]) b k = kid first S.T b k := by
          cases k with
          | zero => rfl
          | succ k =>
            show (tabI _ b k).map _ = (tabI _ b k).map _
            rw [hold b k]
            rintro ⟨rfl, e⟩
            rw [frm_congr (bas_up e (Nat.le_succ _)), hf] at hg0
            injection hg0 with hg0
            exact hat (by rw [← hg0, fld_bas e])
        unfold slotW
        rw [kb]
  · show S.used + 1 = (S.T ++ _).length + 1
    rw [List.length_append, hu]; rfl
  · show first + (S.used + 1) ≤ fs
    omega
  · intro m hm
    obtain ⟨p1, p2, p3, p4, p5⟩ := h.pagesOk m hm
    refine ⟨p1, p2, p3, p4, fun h2 => ?_⟩
    obtain ⟨x, hx, hxt⟩ := p5 h2
    exact ⟨x, List.mem_append_left _ hx, hxt⟩
  · intro x hx
    rcases List.mem_append.1 hx with hx | hx
    · obtain ⟨p1, p2, p3, p4, p5⟩ := h.tabsOk x hx
      refine ⟨p1, p2, p3, p4, fun h2 => ?_⟩
      obtain ⟨y, hy, hyt⟩ := p5 h2
      exact ⟨y, List.mem_append_left _ hy, hyt⟩
    · rw [List.mem_singleton] at hx
      subst hx
      refine ⟨hl, Nat.lt_of_le_of_lt (bas_le va _) hva, (bas_can (by omega)).trans hc, bas_bas (Nat.le_refl _), fun h2 => ?_⟩
      dsimp only at h2
      subst h2
      obtain ⟨y, hy, hyt⟩ := tab_there (by omega) hf
      exact ⟨y, List.mem_append_left _ hy, by rw [isT_congr (show bas (bas va 1) 2 = bas va 2 from bas_bas (by omega))]; exact hyt⟩
  · intro m hm x hx hlv
    rcases List.mem_append.1 hx with hx | hx
    · exact h.excl m hm x hx hlv
    · rw [List.mem_singleton] at hx
      subst hx
      intro hva2
      have := List.find?_eq_none.1 hp m hm
      exact this (isP_iff.2 ⟨hlv, hva2⟩)
  · rw [List.map_append]
    refine nodup_app h.uniqT ?_
    intro hm2
    obtain ⟨x, hx, hkey⟩ := List.mem_map.1 hm2
    exact absurd ht (tab_of_idx hx (keyB_iff.2 hkey))
end
end Go.Proofs.Ytdakfgefnapglaa
