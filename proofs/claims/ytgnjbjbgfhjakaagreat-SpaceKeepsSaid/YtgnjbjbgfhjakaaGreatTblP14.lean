/-
  What the entries of page tables say, and what laying a table or a page makes of the memory's words. No function of the program stands here.
-/
import Derived.Test.YtgnjbjbgfhjakaaGreatTblB14
namespace Go.Proofs.YtgnjbjbgfhjakaaGreat
open Go.RowKit
set_option linter.unusedVariables false
set_option linter.unusedSimpArgs false
attribute [local go_sem] setCell_drewN alloc_drewN

/-- an entry of the tables -/
def slotE (first : Nat) (L : List Pg) (T : List Tb) (va l : Nat) : Ent := match kid first T va l with
  | some g => ⟨true, false, false, false, false, false, false, false, 0, g⟩
  | none => match pg L va l with
    | some m => m.e
    | none => zeE
section
variable {first n fs : Nat} {M : Nat → Nat} {S : Tt}
theorem entW_zero : entW 0 = zeE := rfl
theorem may_ptr (g : Nat) (l : Int) : mayE ⟨true, false, false, false, false, false, false, false, 0, g⟩ l = false := by
  unfold mayE; simp
theorem may_ze (l : Int) : mayE zeE l = false := by unfold mayE zeE; simp
theorem ent_slot (h : RT first fs M S) {va l f : Nat} (hc : canN va = true) (hl : l < 3) (hf : frmT first S.T va l = some f) :
    entT fs M va l f = (slotE first S.L S.T va l, f * 4096 + 8 * fld va (12 + 9 * l) 9, 0) ∧ mayE (slotE first S.L S.T va l) (l : Nat) = (pg S.L va l).isSome ∧ ldE (slotE first S.L S.T va l) (l : Nat) = (kid first S.T va l).isSome ∧
    (slotE first S.L S.T va l).ppn < 18446744073709551616 ∧ (-9223372036854775808 ≤ (slotE first S.L S.T va l).rsw ∧ (slotE first S.L S.T va l).rsw ≤ 9223372036854775807) ∧ (∀ g, kid first S.T va l = some g → (slotE first S.L S.T va l).ppn = g) ∧
    (∀ m, pg S.L va l = some m → slotE first S.L S.T va l = m.e) := by
  obtain ⟨ea, eb⟩ := atN_frm h hf
  have hw := h.words va l f hc hl hf
  rw [← ea] at hw
  unfold entT
  rw [if_neg eb, hw, ea]
  cases hk : kid first S.T va l with
  | some g =>
    have hg : g < 1048576 := (frm_lt h (kid_some h hk hl).2).2.2
    have hpn : pg S.L va l = none := by
      cases hp : pg S.L va l with
      | none => rfl
      | some m => rw [pg_no_kid h hl hp] at hk; cases hk
    have h0 := (kid_some h hk hl).1
    have e1 : slotW first S.L S.T va l = 1 + 1024 * g := by unfold slotW; rw [hk]
    have e2 : slotE first S.L S.T va l = ⟨true, false, false, false, false, false, false, false, 0, g⟩ := by unfold slotE; rw [hk]
    rw [e1, e2, if_pos (by omega), ptr_ent (by omega), hpn, may_ptr]
    refine ⟨rfl, rfl, ?_, ?_, ?_, fun g' hg' => (Option.some.inj hg'), fun m hm => by cases hm⟩
    · unfold ldE; simp; omega
    · dsimp only; omega
    · dsimp only; omega
  | none =>
    cases hp : pg S.L va l with
    | some m =>
      obtain ⟨hm, hlv, _⟩ := pg_mem hp
      obtain ⟨_, _, _, hmay, _⟩ := h.pagesOk m hm
      rw [hlv] at hmay
      obtain ⟨m1, m2, m3, m4, m5, m6⟩ := may_parts hmay
      have e1 : slotW first S.L S.T va l = wordE m.e := by unfold slotW; rw [hk, hp]
      have e2 : slotE first S.L S.T va l = m.e := by unfold slotE; rw [hk, hp]
      have m7 := of_decide_eq_true (show decide (m.e.ppn < 17592186044416 ∧ 0 ≤ m.e.rsw ∧ m.e.rsw < 4) = true from m2)
      rw [e1, e2, if_pos (wordE_lt _), ent_word m2, hmay]
      refine ⟨rfl, rfl, ?_, by omega, by omega, fun g' hg' => (by cases hg'), fun m' hm' => by rw [Option.some.inj hm']⟩
      unfold ldE
      rw [m3, m4, m5]
      rfl
    | none =>
      have e1 : slotW first S.L S.T va l = 0 := by unfold slotW; rw [hk, hp]
      have e2 : slotE first S.L S.T va l = zeE := by unfold slotE; rw [hk, hp]
      rw [e1, e2, if_pos (by omega), entW_zero, may_ze]
      refine ⟨rfl, rfl, ?_, ?_, ?_, fun g' hg' => (by cases hg'), fun m' hm' => by cases hm'⟩
      · unfold ldE zeE; simp
      · unfold zeE; dsimp only; omega
      · unfold zeE; dsimp only; omega
/-- the next table down, laid where there is none -/
def nxT (first n va l : Nat) (S : Tt) : Tt × Nat × Int :=
  if (pg S.L va (l + 1)).isSome then (S, 0, 130) else match kid first S.T va (l + 1) with
    | some g => (S, g, 0)
    | none => if takE 0 n n S.used = 0 then (⟨S.L, S.T ++ [⟨l, bas va (l + 1), S.used⟩], S.used + 1⟩, S.used, 0) else (S, 0, takE 0 n n S.used)
/-- the room for a page, k levels further down -/
def roomP (first n va lv : Nat) : Nat → Tt → Tt × Int
  | 0, S => if (pg S.L va lv).isSome || (kid first S.T va lv).isSome then (S, 130) else (S, 0)
  | k + 1, S => if (nxT first n va (lv + k) S).2.2 = 0 then roomP first n va lv k (nxT first n va (lv + k) S).1 else ((nxT first n va (lv + k) S).1, (nxT first n va (lv + k) S).2.2)
/-- Map, Change, Unmap -/
def mapT (first n va : Nat) (l : Int) (e : Ent) (S : Tt) : Tt × Int := if canN va && mayE e l then
    if (roomP first n va l.toNat (2 - l.toNat) S).2 = 0 then (⟨(roomP first n va l.toNat (2 - l.toNat) S).1.L ++ [⟨bas va l.toNat, l.toNat, e⟩], (roomP first n va l.toNat (2 - l.toNat) S).1.T, (roomP first n va l.toNat (2 - l.toNat) S).1.used⟩, 0) else roomP first n va l.toNat (2 - l.toNat) S
  else (S, 2)
def entOf (L : List Pg) (i : Nat) : Pg := (L[i]?).getD ⟨0, 0, zeE⟩
def setE (L : List Pg) (i : Nat) (e : Ent) : List Pg := L.set i ⟨(entOf L i).va, (entOf L i).lv, e⟩
def chgT (va : Nat) (e : Ent) (S : Tt) : Tt × Int :=
  match hold S.L va with
  | none => (S, 51)
  | some i => if mayE e (entOf S.L i).lv then (⟨setE S.L i e, S.T, S.used⟩, 0) else (S, 2)
def unmT (va : Nat) (S : Tt) : Tt × Ent × Int :=
  match hold S.L va with
  | none => (S, zeE, 51)
  | some i => (⟨S.L.eraseIdx i, S.T, S.used⟩, (entOf S.L i).e, 0)
theorem entOf_at {L : List Pg} {i : Nat} (h : i < L.length) : entOf L i = L[i] := by unfold entOf; simp [h]
theorem stC_frame {C : Nat → List Int} {fr f i g : Nat} {v : Int} (hi : i < 512) (hg : g ≠ f) : stC fr C (f * 4096 + 8 * i) 8 v g = C g := by
  unfold stC
  split
  · unfold layC updC
    rw [place_frame f hi, if_neg hg]
  · rfl
theorem updC_frame {C : Nat → List Int} {f g : Nat} {p : List Int} (hg : g ≠ f) : updC C f p g = C g := by unfold updC; rw [if_neg hg]
/-- a table is laid -/
theorem addTable13 {C : Nat → List Int} (h : RT first fs (Mw C) S) (hlen : ∀ f, (C f).length = 4096) {va l f : Nat} (hc : canN va = true) (hva : va < 18446744073709551616) (hl : l < 2) (hf : frmT first S.T va (l + 1) = some f)
    (hk : kid first S.T va (l + 1) = none) (hp : pg S.L va (l + 1) = none) (hfit : S.used < fs) :
    RT first fs (Mw (stC fs (updC C S.used (List.replicate 4096 0)) (f * 4096 + 8 * fld va (12 + 9 * (l + 1)) 9) 8 ((wordE ⟨true, false, false, false, false, false, false, false, 0, S.used⟩ : Nat) : Int))) ⟨S.L, S.T ++ [⟨l, bas va (l + 1), S.used⟩], S.used + 1⟩ ∧ frmT first (S.T ++ [⟨l, bas va (l + 1), S.used⟩]) va l = some S.used := by
  have h9 := fld9 va (l + 1)
  have hfl := frm_lt h hf
  have hm := h.most
  have hl2 : ∀ g, (updC C S.used (List.replicate 4096 0) g).length = 4096 := fun g => by
    unfold updC; split
    · rw [List.length_replicate]
    · exact hlen g
  have hwd : wordE ⟨true, false, false, false, false, false, false, false, 0, S.used⟩ = 1 + 1024 * S.used := by
    unfold wordE; dsimp only
    rw [Nat.mod_eq_of_lt (by omega)]
    rfl
  have hst := fun b (hb : b % 8 = 0) => Mw_st (C := updC C S.used (List.replicate 4096 0)) (fr := fs) (v := wordE ⟨true, false, false, false, false, false, false, false, 0, S.used⟩) hl2 (place_8 f (fld va (12 + 9 * (l + 1)) 9)) (by rw [place_frame f h9]; exact hfl.2.1) hb (by rw [hwd]; omega)
  have hpf := place_frame f h9
  refine h.addTable hc hva hl hf (kid_none hk) hp hfit ?_ ?_ ?_
  · rw [hst _ (place_8 _ _), if_pos rfl, hwd]
  · intro a ha hq
    rw [hst a ha, if_neg (fun e => by rw [e, hpf] at hq; have := hfl.1; omega), Mw_page, if_pos hq]
  · intro a ha hne hq
    rw [hst a ha, if_neg hne, Mw_page, if_neg hq]
/-- a page is laid -/
theorem addPage13 {C : Nat → List Int} (h : RT first fs (Mw C) S) (hlen : ∀ f, (C f).length = 4096) {va l f : Nat} {e : Ent} (hc : canN va = true) (hva : va < 18446744073709551616) (hl : l < 3) (hf : frmT first S.T va l = some f)
    (hm : mayE e l = true) (hk : kid first S.T va l = none) (hp : pg S.L va l = none) :
    RT first fs (Mw (stC fs C (f * 4096 + 8 * fld va (12 + 9 * l) 9) 8 ((wordE e : Nat) : Int))) ⟨S.L ++ [⟨bas va l, l, e⟩], S.T, S.used⟩ := by
  have h9 := fld9 va l
  have hfl := frm_lt h hf
  have hst := fun b (hb : b % 8 = 0) => Mw_st (C := C) (fr := fs) (v := wordE e) hlen (place_8 f (fld va (12 + 9 * l) 9)) (by rw [place_frame f h9]; exact hfl.2.1) hb (by have := wordE_lt e; omega)
  refine h.addPage hc hva hl hf hm hk hp ?_ ?_
  · rw [hst _ (place_8 _ _), if_pos rfl]
  · intro a ha hne
    rw [hst a ha, if_neg hne]
theorem change13 {C : Nat → List Int} (h : RT first fs (Mw C) S) (hlen : ∀ f, (C f).length = 4096) {va l f i : Nat} {e : Ent} (hc : canN va = true) (hl : l < 3) (hf : frmT first S.T va l = some f)
    (hm : mayE e l = true) (hi : pagI S.L va l = some i) :
    RT first fs (Mw (stC fs C (f * 4096 + 8 * fld va (12 + 9 * l) 9) 8 ((wordE e : Nat) : Int))) ⟨S.L.set i ⟨bas va l, l, e⟩, S.T, S.used⟩ := by
  have h9 := fld9 va l
  have hfl := frm_lt h hf
  have hst := fun b (hb : b % 8 = 0) => Mw_st (C := C) (fr := fs) (v := wordE e) hlen (place_8 f (fld va (12 + 9 * l) 9)) (by rw [place_frame f h9]; exact hfl.2.1) hb (by have := wordE_lt e; omega)
  refine h.change hc hl hf hm hi ?_ ?_
  · rw [hst _ (place_8 _ _), if_pos rfl]
  · intro a ha hne
    rw [hst a ha, if_neg hne]
theorem remove13 {C : Nat → List Int} (h : RT first fs (Mw C) S) (hlen : ∀ f, (C f).length = 4096) {va l f i : Nat} (hc : canN va = true) (hl : l < 3) (hf : frmT first S.T va l = some f)
    (hi : pagI S.L va l = some i) :
    RT first fs (Mw (stC fs C (f * 4096 + 8 * fld va (12 + 9 * l) 9) 8 ((wordE zeE : Nat) : Int))) ⟨S.L.eraseIdx i, S.T, S.used⟩ := by
  have h9 := fld9 va l
  have hfl := frm_lt h hf
  have hst := fun b (hb : b % 8 = 0) => Mw_st (C := C) (fr := fs) (v := wordE zeE) hlen (place_8 f (fld va (12 + 9 * l) 9)) (by rw [place_frame f h9]; exact hfl.2.1) hb (by decide)
  refine h.remove hc hl hf hi ?_ ?_
  · rw [hst _ (place_8 _ _), if_pos rfl]; decide
  · intro a ha hne
    rw [hst a ha, if_neg hne]
end
/-- what has changed is the tables' own, and what is theirs anew is new -/
def Nx (w w' : World) (tp mp : Nat) (Fm Gs Fm' Gs' : Nat → Prop) : Prop := (∀ j, FpW tp mp Fm' Gs' j → FpW tp mp Fm Gs j ∨ w.heap.size ≤ j) ∧ Chg (FpW tp mp Fm Gs) w w'
theorem Nx.trans {w w1 w2 : World} {tp mp : Nat} {A B A1 B1 A2 B2 : Nat → Prop} (h : Nx w w1 tp mp A B A1 B1) (k : Nx w1 w2 tp mp A1 B1 A2 B2) : Nx w w2 tp mp A B A2 B2 :=
  ⟨fun j hj => (k.1 j hj).elim (h.1 j) (fun h2 => .inr (Nat.le_trans h.2.size h2)), h.2.thenExt k.2 h.1⟩
theorem Nx.below {w w' : World} {tp mp : Nat} {A B : Nat → Prop} (h : Below w.heap.size w w') : Nx w w' tp mp A B A B := ⟨fun j hj => .inl hj, Chg.of_below h⟩
theorem Nx.mem {w w' : World} {tp mp : Nat} {A B A' : Nat → Prop} (hx : ∀ j, A' j → A j ∨ w.heap.size ≤ j) (hc : Chg (FpW tp mp A B) w w') : Nx w w' tp mp A B A' B := by
  refine ⟨?_, hc⟩
  rintro j (h | h | h | h)
  · exact .inl (.inl h)
  · exact .inl (.inr (.inl h))
  · exact (hx j h).elim (fun h => .inl (.inr (.inr (.inl h)))) .inr
  · exact .inl (.inr (.inr (.inr h)))
theorem Nx.stk {w w' : World} {tp mp : Nat} {A B B' : Nat → Prop} (hx : ∀ j, B' j → B j ∨ w.heap.size ≤ j) (hc : Chg B w w') : Nx w w' tp mp A B A B' := by
  refine ⟨?_, hc.mono (fun k _ h => .inr (.inr (.inr h)))⟩
  rintro j (h | h | h | h)
  · exact .inl (.inl h)
  · exact .inl (.inr (.inl h))
  · exact .inl (.inr (.inr (.inl h)))
  · exact (hx j h).elim (fun h => .inl (.inr (.inr (.inr h)))) .inr
/-- tables of a state over a memory's bytes: the stock has all frames of the memory -/
def TS (first n : Nat) (w : World) (tp mp sp : Nat) (Fm Gs : Nat → Prop) (C : Nat → List Int) (S : Tt) (c : Nat) : Prop := ∃ ut, TW 0 n n (first : Int) w tp mp sp Fm Gs C c ut S.used ∧ RT first n (Mw C) S
section
variable {first n fs : Nat} {w w' : World} {tp mp sp : Nat} {Fm Gs : Nat → Prop} {C : Nat → List Int} {S : Tt} {c : Nat}
theorem TS.below (h : TS first n w tp mp sp Fm Gs C S c) (hb : Below w.heap.size w w') : TS first n w' tp mp sp Fm Gs C S c := by
  obtain ⟨u, h1, h2⟩ := h
  exact ⟨u, h1.below hb, h2⟩
theorem TS.mono (h : TS first n w tp mp sp Fm Gs C S c) {c' : Nat} (hc : c ≤ c') : TS first n w tp mp sp Fm Gs C S c' := by
  obtain ⟨u, h1, h2⟩ := h
  exact ⟨u, h1.mono hc, h2⟩
theorem TS.chg {G : Nat → Prop} (h : TS first n w tp mp sp Fm Gs C S c) (hc : Chg G w w') (hf : ∀ j, FpW tp mp Fm Gs j → ¬ G j) : TS first n w' tp mp sp Fm Gs C S c := by
  obtain ⟨u, h1, h2⟩ := h
  exact ⟨u, h1.chg hc hf, h2⟩
/-- what else the memory has stays -/
def Keep (first : Nat) (T : List Tb) (C C' : Nat → List Int) : Prop := ∀ f, ¬ Tf first T f → C' f = C f
theorem Keep.refl {T : List Tb} (C : Nat → List Int) : Keep first T C C := fun _ _ => rfl
/-- tables only come -/
def Sub (T T' : List Tb) : Prop := ∀ x ∈ T, x ∈ T'
theorem Keep.trans {T T' : List Tb} {C C1 C2 : Nat → List Int} (h : Keep first T C C1) (k : Keep first T' C1 C2) (hs : Sub T T') : Keep first T' C C2 := fun f hf => by
  rw [k f hf, h f (fun h2 => hf (h2.elim .inl (fun ⟨x, hx, e⟩ => .inr ⟨x, hs x hx, e⟩)))]
theorem TW.wrote {rt : Int} {C' : Nat → List Int} {F' : Nat → Prop} {used ut c' : Nat} (h : TW first n fs rt w tp mp sp Fm Gs C c ut used) (hM : MemX w' mp fs c' C' F') (hx : Ext w Fm F') (hc : Chg Fm w w') : TW first n fs rt w' tp mp sp F' Gs C' c' ut used ∧ Nx w w' tp mp Fm Gs F' Gs := by
  refine ⟨⟨h.blk.chg hc h.mt, h.utle, hM, h.stk.chg hc (fun k hk h2 => h.sm k h2 hk), h.le, fun j hj hg => (hx j hj).elim (fun h2 => h.sm j h2 hg) (fun h2 => by have := h.stk.lt j hg; omega), fun hg => (hx _ hg).elim h.mt (fun h2 => by have := h.blk.lt; omega), h.st, h.ms, h.tm⟩, Nx.mem hx (hc.mono (fun k _ h => .inr (.inr (.inl h))))⟩
end
end Go.Proofs.YtgnjbjbgfhjakaaGreat
