/-
  Plain facts on memories as bytes by their places, and as pages: nothing of the program stands here. No conditions.
-/
import Derived.Test.YtgnjbjbgfhjakaaGreatPlain
namespace Go.Proofs.YtgnjbjbgfhjakaaGreat
open Go.RowKit
set_option linter.unusedVariables false

/-- the byte at a place -/
def getB : List (Nat × Int) → Nat → Int
  | [], _ => 0
  | p :: r, a => if p.1 = a then p.2 else getB r a
/-- a byte put -/
def putB (L : List (Nat × Int)) (a : Nat) (b : Int) : List (Nat × Int) := L.filter (fun p => decide (p.1 ≠ a)) ++ (if b = 0 then [] else [(a, b)])
/-- each place once -/
def Uniq (L : List (Nat × Int)) : Prop := L.Pairwise (fun p q => p.1 ≠ q.1)
theorem getB_none : ∀ {L : List (Nat × Int)} {a : Nat}, (∀ p ∈ L, p.1 ≠ a) → getB L a = 0
  | [], _, _ => rfl
  | p :: r, a, h => by rw [getB, if_neg (h p (by simp)), getB_none (fun q hq => h q (by simp [hq]))]
theorem getB_app : ∀ (L M : List (Nat × Int)) (a : Nat), (∀ p ∈ L, p.1 ≠ a) → getB (L ++ M) a = getB M a
  | [], _, _, _ => rfl
  | p :: r, M, a, h => by rw [List.cons_append, getB, if_neg (h p (by simp)), getB_app r M a (fun q hq => h q (by simp [hq]))]
theorem getB_app_no : ∀ (L M : List (Nat × Int)) (a : Nat), (∀ p ∈ M, p.1 ≠ a) → getB (L ++ M) a = getB L a
  | [], M, a, h => getB_none h
  | p :: r, M, a, h => by
    rw [List.cons_append, getB, getB]
    split
    · rfl
    · exact getB_app_no r M a h
theorem getB_filter (f : Nat → Bool) : ∀ (L : List (Nat × Int)) (a : Nat), f a = true → getB (L.filter (fun p => f p.1)) a = getB L a
  | [], _, _ => rfl
  | p :: r, a, h => by
    by_cases hp : f p.1 = true
    · rw [List.filter_cons_of_pos (by simpa using hp), getB, getB]
      split
      · rfl
      · exact getB_filter f r a h
    · rw [List.filter_cons_of_neg (by simpa using hp), getB, if_neg (by intro e; rw [e] at hp; exact hp h)]
      exact getB_filter f r a h
theorem getB_put (L : List (Nat × Int)) (a : Nat) (b : Int) (x : Nat) : getB (putB L a b) x = if x = a then b else getB L x := by
  unfold putB
  by_cases hx : x = a
  · subst hx
    rw [if_pos rfl, getB_app _ _ _ (by simp)]
    split
    · rename_i h; rw [h]; rfl
    · simp [getB]
  · rw [if_neg hx, getB_app_no _ _ _ (by split <;> simp; omega)]
    exact getB_filter (fun p => decide (p ≠ a)) L x (by simpa using hx)
theorem Uniq.put {L : List (Nat × Int)} (h : Uniq L) (a : Nat) (b : Int) : Uniq (putB L a b) := by
  unfold putB Uniq
  refine List.pairwise_append.2 ⟨h.filter _, by split <;> simp, fun p hp q hq => ?_⟩
  split at hq
  · cases hq
  · simp at hq hp
    rw [hq]; exact hp.2
theorem putB_mem {L : List (Nat × Int)} {a : Nat} {b : Int} {p : Nat × Int} (h : p ∈ putB L a b) : p ∈ L ∨ p = (a, b) := by
  unfold putB at h
  rcases List.mem_append.1 h with h | h
  · exact .inl (List.mem_filter.1 h).1
  · split at h
    · cases h
    · exact .inr (by simpa using h)
/-- bytes put from a on -/
def putsB (L : List (Nat × Int)) (a : Nat) : List Int → List (Nat × Int)
  | [] => L
  | b :: r => putsB (putB L a b) (a + 1) r
theorem getB_puts : ∀ (l : List Int) (L : List (Nat × Int)) (a x : Nat), getB (putsB L a l) x = if a ≤ x ∧ x < a + l.length then l.getD (x - a) 0 else getB L x
  | [], L, a, x => by rw [putsB, if_neg (by simp only [List.length_nil]; omega)]
  | c :: r, L, a, x => by
    rw [putsB, getB_puts r, getB_put, List.length_cons]
    by_cases h1 : a + 1 ≤ x ∧ x < a + 1 + r.length
    · rw [if_pos h1, if_pos (by omega), show x - a = x - (a + 1) + 1 from by omega, List.getD_cons_succ]
    · rw [if_neg h1]
      by_cases h2 : x = a
      · subst h2
        rw [if_pos rfl, if_pos (by omega), Nat.sub_self, List.getD_cons_zero]
      · rw [if_neg h2, if_neg (by omega)]
theorem Uniq.puts : ∀ {l : List Int} {L : List (Nat × Int)} {a : Nat}, Uniq L → Uniq (putsB L a l)
  | [], _, _, h => h
  | c :: r, L, a, h => by rw [putsB]; exact (h.put a c).puts
theorem putsB_mem : ∀ {l : List Int} {L : List (Nat × Int)} {a : Nat} {p : Nat × Int}, p ∈ putsB L a l → p ∈ L ∨ (a ≤ p.1 ∧ p.1 < a + l.length ∧ p.2 ∈ l)
  | [], L, a, p, h => .inl h
  | c :: r, L, a, p, h => by
    rw [putsB] at h
    rcases putsB_mem h with h | ⟨h1, h2, h3⟩
    · rcases putB_mem h with h | rfl
      · exact .inl h
      · exact .inr ⟨Nat.le_refl _, by rw [List.length_cons]; omega, by simp⟩
    · exact .inr ⟨by omega, by rw [List.length_cons]; omega, by simp [h3]⟩
/-- the bytes from a on -/
def bytesB (L : List (Nat × Int)) (a s : Nat) : List Int := (List.range s).map fun i => getB L (a + i)
/-- a byte laid in the page of a frame -/
def stepB (f : Nat) (P : List Int) (p : Nat × Int) : List Int := if p.1 / 4096 = f then P.set (p.1 % 4096) p.2 else P
/-- the page of a frame -/
def pageB (f : Nat) : List (Nat × Int) → List Int → List Int
  | [], P => P
  | p :: r, P => pageB f r (stepB f P p)
theorem stepB_len (f : Nat) (P : List Int) (p : Nat × Int) : (stepB f P p).length = P.length := by unfold stepB; split <;> simp
theorem pageB_len (f : Nat) : ∀ (L : List (Nat × Int)) (P : List Int), (pageB f L P).length = P.length
  | [], P => rfl
  | p :: r, P => by rw [pageB, pageB_len f r, stepB_len]
theorem pageB_at (f : Nat) : ∀ (L : List (Nat × Int)) (P : List Int) (i : Nat), Uniq L → i < P.length → P.length = 4096 → (pageB f L P).getD i 0 = if (∃ p ∈ L, p.1 = 4096 * f + i) then getB L (4096 * f + i) else P.getD i 0
  | [], P, i, _, _, _ => by simp [pageB]
  | p :: r, P, i, hu, hi, hP => by
    obtain ⟨h1, h2⟩ := List.pairwise_cons.1 hu
    rw [pageB, pageB_at f r _ i h2 (by rw [stepB_len]; exact hi) (by rw [stepB_len]; exact hP)]
    by_cases hp : p.1 = 4096 * f + i
    · have hn : ¬ ∃ q ∈ r, q.1 = 4096 * f + i := fun ⟨q, hq, e⟩ => h1 q hq (by omega)
      rw [if_neg hn, if_pos ⟨p, by simp, hp⟩, getB, if_pos hp]
      unfold stepB
      rw [if_pos (by omega), show p.1 % 4096 = i from by omega]
      simp [List.getD_eq_getElem?_getD, hi]
    · rw [getB, if_neg hp]
      have hset : (stepB f P p).getD i 0 = P.getD i 0 := by
        unfold stepB
        split
        · rename_i hf
          rw [List.getD_eq_getElem?_getD, List.getD_eq_getElem?_getD, List.getElem?_set_ne (by omega)]
        · rfl
      rw [hset]
      by_cases hq : ∃ q ∈ r, q.1 = 4096 * f + i
      · obtain ⟨q, hq, e⟩ := hq
        rw [if_pos ⟨q, hq, e⟩, if_pos ⟨q, by simp [hq], e⟩]
      · rw [if_neg hq, if_neg (fun ⟨q, h, e⟩ => (List.mem_cons.1 h).elim (fun h => hp (h ▸ e)) (fun h => hq ⟨q, h, e⟩))]
theorem ext_getD {l m : List Int} (hl : l.length = m.length) (h : ∀ i, i < l.length → l.getD i 0 = m.getD i 0) : l = m := by
  apply List.ext_getElem hl
  intro i h1 h2
  have := h i h1
  rw [List.getD_eq_getElem?_getD, List.getD_eq_getElem?_getD, List.getElem?_eq_getElem h1, List.getElem?_eq_getElem h2] at this
  exact this
/-- the bytes of a frame that aren't 0 -/
def laidB (f k : Nat) : List Int → List (Nat × Int)
  | [] => []
  | c :: r => (if c = 0 then [] else [(4096 * f + k, c)]) ++ laidB f (k + 1) r
/-- a frame's bytes set -/
def setB (L : List (Nat × Int)) (f : Nat) (l : List Int) : List (Nat × Int) := L.filter (fun p => decide (p.1 / 4096 ≠ f)) ++ laidB f 0 l
theorem laidB_mem (f : Nat) : ∀ {l : List Int} {k : Nat} {p : Nat × Int}, p ∈ laidB f k l → 4096 * f + k ≤ p.1 ∧ p.1 < 4096 * f + k + l.length ∧ p.2 ∈ l
  | [], _, _, h => by cases h
  | c :: r, k, p, h => by
    rw [laidB] at h
    rw [List.length_cons]
    rcases List.mem_append.1 h with h | h
    · split at h
      · cases h
      · have : p = (4096 * f + k, c) := by simpa using h
        subst this
        exact ⟨Nat.le_refl _, by simp only []; omega, by simp⟩
    · obtain ⟨h1, h2, h3⟩ := laidB_mem f h
      exact ⟨by omega, by omega, by simp [h3]⟩
theorem laidB_uniq (f : Nat) : ∀ (l : List Int) (k : Nat), Uniq (laidB f k l)
  | [], _ => List.Pairwise.nil
  | c :: r, k => by
    rw [laidB]
    refine List.pairwise_append.2 ⟨by split <;> simp, laidB_uniq f r (k + 1), fun p hp q hq => ?_⟩
    have h2 := laidB_mem f hq
    split at hp
    · cases hp
    · have : p = (4096 * f + k, c) := by simpa using hp
      subst this
      simp only []
      omega
theorem getB_laid (f : Nat) : ∀ (l : List Int) (k x : Nat), getB (laidB f k l) x = if 4096 * f + k ≤ x ∧ x < 4096 * f + k + l.length then l.getD (x - (4096 * f + k)) 0 else 0
  | [], k, x => by rw [if_neg (by simp only [List.length_nil]; omega)]; rfl
  | c :: r, k, x => by
    rw [laidB, List.length_cons]
    by_cases hx : x = 4096 * f + k
    · subst hx
      rw [if_pos (c := 4096 * f + k ≤ 4096 * f + k ∧ _) (by omega), Nat.sub_self, List.getD_cons_zero]
      by_cases h : c = 0
      · rw [if_pos h, List.nil_append, getB_laid f r, if_neg (by omega), h]
      · rw [if_neg h, List.cons_append, getB, if_pos rfl]
    · rw [getB_app _ _ _ (fun p hp => by
        split at hp
        · cases hp
        · have : p = (4096 * f + k, c) := by simpa using hp
          subst this
          exact fun e => hx e.symm), getB_laid f r]
      by_cases h1 : 4096 * f + (k + 1) ≤ x ∧ x < 4096 * f + (k + 1) + r.length
      · rw [if_pos h1, if_pos (by omega), show x - (4096 * f + k) = x - (4096 * f + (k + 1)) + 1 from by omega, List.getD_cons_succ]
      · rw [if_neg h1, if_neg (by omega)]
theorem setB_mem {L : List (Nat × Int)} {f : Nat} {l : List Int} {p : Nat × Int} (h : p ∈ setB L f l) : p ∈ L ∨ (p.1 < 4096 * f + l.length ∧ p.2 ∈ l) := by
  unfold setB at h
  rcases List.mem_append.1 h with h | h
  · exact .inl (List.mem_filter.1 h).1
  · exact .inr ⟨(laidB_mem f h).2.1, (laidB_mem f h).2.2⟩
theorem Uniq.setB {L : List (Nat × Int)} (h : Uniq L) (f : Nat) (l : List Int) (hl : l.length ≤ 4096) : Uniq (setB L f l) := by
  unfold Proofs.YtgnjbjbgfhjakaaGreat.setB Uniq
  refine List.pairwise_append.2 ⟨h.filter _, laidB_uniq f l 0, fun p hp q hq => ?_⟩
  have h1 := laidB_mem f hq
  simp at hp
  intro e
  exact hp.2 (by omega)
theorem getB_set (L : List (Nat × Int)) (f : Nat) (l : List Int) (hl : l.length ≤ 4096) (x : Nat) : getB (setB L f l) x = if x / 4096 = f then l.getD (x % 4096) 0 else getB L x := by
  unfold setB
  by_cases hx : x / 4096 = f
  · rw [if_pos hx, getB_app _ _ _ (fun p hp => by simp at hp; intro e; exact hp.2 (by omega)), getB_laid]
    by_cases h : x % 4096 < l.length
    · rw [if_pos (by omega), show x - (4096 * f + 0) = x % 4096 from by omega]
    · rw [if_neg (by omega), List.getD_eq_getElem?_getD, List.getElem?_eq_none (by omega)]; rfl
  · rw [if_neg hx, getB_app_no _ _ _ (fun p hp => by have := laidB_mem f hp; omega)]
    exact getB_filter (fun p => decide (p / 4096 ≠ f)) L x (by simpa using hx)

instance (n : Int) : Decidable (SzI n) := by unfold SzI; exact inferInstance
/-- which error a word has -/
def errL (fr a : Nat) (s : Int) : Nat := if SzI s then (if a % s.toNat = 0 then (if a / 4096 < fr then 0 else 61) else 60) else 2
theorem errL_ok {fr a : Nat} {s : Int} (h : errL fr a s = 0) : SzI s ∧ a % s.toNat = 0 ∧ a / 4096 < fr := by
  unfold errL at h
  split at h
  · split at h
    · split at h
      · exact ⟨by assumption, by assumption, by assumption⟩
      · omega
    · omega
  · omega
theorem size_fits {a s : Nat} (hs : SzI s) (ha : a % s = 0) : a % 4096 + s ≤ 4096 := by
  have h' : s = 1 ∨ s = 2 ∨ s = 4 ∨ s = 8 := by unfold SzI at hs; omega
  rcases h' with rfl | rfl | rfl | rfl <;> omega

/-! ### the two together -/
/-- pages and bytes are the same memory -/
structure Agree (C : Nat → List Int) (L : List (Nat × Int)) : Prop where
  at_ : ∀ f i, i < 4096 → (C f).getD i 0 = getB L (4096 * f + i)
  len : ∀ f, (C f).length = 4096
  uniq : Uniq L
  bts : ∀ p ∈ L, 0 ≤ p.2 ∧ p.2 ≤ 255
  bnd : ∀ p ∈ L, p.1 < 4294967296
theorem Agree.zero : Agree (fun _ => List.replicate 4096 0) [] where
  at_ f i hi := by rw [List.getD_eq_getElem?_getD, List.getElem?_replicate, if_pos hi]; rfl
  len f := List.length_replicate
  uniq := List.Pairwise.nil
  bts p hp := by cases hp
  bnd p hp := by cases hp
theorem Agree.word {C : Nat → List Int} {L : List (Nat × Int)} (h : Agree C L) (a s : Nat) (hs : a % 4096 + s ≤ 4096) : ((C (a / 4096)).drop (a % 4096)).take s = bytesB L a s := by
  have hl := h.len (a / 4096)
  refine ext_getD (by unfold bytesB; simp; omega) (fun i hi => ?_)
  rw [List.length_take, List.length_drop] at hi
  have h1 := h.at_ (a / 4096) (a % 4096 + i) (by omega)
  rw [show 4096 * (a / 4096) + (a % 4096 + i) = a + i from by omega] at h1
  unfold bytesB
  rw [List.getD_eq_getElem?_getD, List.getElem?_take_of_lt (by omega), List.getElem?_drop, ← List.getD_eq_getElem?_getD, h1, List.getD_eq_getElem?_getD, List.getElem?_map, List.getElem?_range (by omega)]
  rfl
theorem Agree.page {C : Nat → List Int} {L : List (Nat × Int)} (h : Agree C L) (f : Nat) : pageB f L (List.replicate 4096 0) = C f := by
  refine ext_getD (by rw [pageB_len, h.len, List.length_replicate]) (fun i hi => ?_)
  rw [pageB_len, List.length_replicate] at hi
  rw [pageB_at f L _ i h.uniq (by rw [List.length_replicate]; exact hi) List.length_replicate, h.at_ f i hi]
  split
  · rfl
  · rename_i hn
    rw [getB_none (fun p hp e => hn ⟨p, hp, e⟩), List.getD_eq_getElem?_getD, List.getElem?_replicate, if_pos hi]; rfl
theorem Agree.store {C : Nat → List Int} {L : List (Nat × Int)} (h : Agree C L) (a s : Nat) (v : Int) (hs : a % 4096 + s ≤ 4096) (ha : a + s ≤ 4294967296) :
    Agree (fun k => if k = a / 4096 then lay (C (a / 4096)) (a % 4096) (byt v s) else C k) (putsB L a (byt v s)) := by
  have hl := h.len (a / 4096)
  have hb := byt_len s v
  refine ⟨fun f i hi => ?_, fun f => ?_, h.uniq.puts, fun p hp => ?_, fun p hp => (putsB_mem hp).elim (h.bnd p) (fun h => by rw [hb] at h; omega)⟩
  · rw [getB_puts, hb]
    by_cases hf : f = a / 4096
    · rw [if_pos hf]
      have h1 := h.at_ f i hi
      subst hf
      unfold lay
      rw [hb, List.getD_eq_getElem?_getD]
      by_cases h2 : i < a % 4096
      · rw [List.append_assoc, List.getElem?_append_left (by rw [List.length_take]; omega), List.getElem?_take_of_lt h2, ← List.getD_eq_getElem?_getD, h1, if_neg (by omega)]
      · by_cases h3 : i < a % 4096 + s
        · rw [List.append_assoc, List.getElem?_append_right (by rw [List.length_take]; omega), List.length_take, List.getElem?_append_left (by rw [hb]; omega), if_pos (by omega), List.getD_eq_getElem?_getD]
          congr 2
          omega
        · rw [List.getElem?_append_right (by rw [List.length_append, List.length_take, hb]; omega), List.length_append, List.length_take, hb, List.getElem?_drop, if_neg (by omega), ← h1, List.getD_eq_getElem?_getD]
          congr 2
          omega
    · rw [if_neg hf, if_neg (by omega)]
      exact h.at_ f i hi
  · split
    · rw [lay_len _ _ _ (by rw [hb]; omega)]; exact hl
    · exact h.len f
  · rcases putsB_mem hp with hp | ⟨_, _, h3⟩
    · exact h.bts p hp
    · exact byt_Byt s v _ h3
theorem Agree.set {C : Nat → List Int} {L : List (Nat × Int)} (h : Agree C L) (f : Nat) (l : List Int) (hl : l.length ≤ 4096) (hb : Byt l) (hf : f < 1048576) :
    Agree (fun k => if k = f then l ++ List.replicate (4096 - l.length) 0 else C k) (setB L f l) := by
  refine ⟨fun g i hi => ?_, fun g => ?_, h.uniq.setB f l hl, fun p hp => ?_, fun p hp => (setB_mem hp).elim (h.bnd p) (fun h => by omega)⟩
  · rw [getB_set L f l hl, show (4096 * g + i) / 4096 = g from by omega, show (4096 * g + i) % 4096 = i from by omega]
    split
    · rw [List.getD_eq_getElem?_getD, List.getD_eq_getElem?_getD]
      rcases Nat.lt_or_ge i l.length with hlt | hge
      · rw [List.getElem?_append_left hlt]
      · rw [List.getElem?_append_right hge, List.getElem?_eq_none hge, List.getElem?_replicate, if_pos (by omega)]; rfl
    · exact h.at_ g i hi
  · split
    · rw [List.length_append, List.length_replicate]; omega
    · exact h.len g
  · rcases setB_mem hp with hp | hp
    · exact h.bts p hp
    · exact hb _ hp.2
end Go.Proofs.YtgnjbjbgfhjakaaGreat
