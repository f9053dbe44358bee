/-
  Frames as plain values: which are right, their bytes, which bytes are one. No function of the program stands here.
-/
import Derived.Test.YtmdfopbigkfbnaaDoorMem
import Derived.Test.YtmdfopbigkfbnaaDoorCrc
namespace Go.Proofs.YtmdfopbigkfbnaaDoor
open Go.RowKit
set_option linter.unusedVariables false
set_option linter.unusedSimpArgs false

structure Fm where
  f : Int
  t : Int
  b : Bool
  s : Int
  a : Int
  d : List Int
/-- the parts are of their types -/
structure FmT (m : Fm) : Prop where
  f : -9223372036854775808 ≤ m.f ∧ m.f ≤ 9223372036854775807
  t : -9223372036854775808 ≤ m.t ∧ m.t ≤ 9223372036854775807
  s : 0 ≤ m.s ∧ m.s ≤ 18446744073709551615
  a : 0 ≤ m.a ∧ m.a ≤ 18446744073709551615
def z16 : Fm := ⟨0, 0, false, 0, 0, []⟩
/-- what is asked of the number and the bytes, with a body and without -/
def bok (b : Bool) (s : Int) (n : Nat) : Bool := if b then decide (s ≠ 0) && decide (n ≤ 4120) else decide (s = 0) && decide (n = 0)
def nok (f t : Int) : Bool := decide (0 ≤ f ∧ f < 16 ∧ 0 ≤ t ∧ t < 16 ∧ f ≠ t)
def rgt (m : Fm) : Bool := nok m.f m.t && bok m.b m.s m.d.length
def kb (b : Bool) : Int := if b then 1 else 0
def hdF (m : Fm) : List Int := [82, 82, kb m.b, m.f, m.t] ++ byt m.s 8 ++ byt m.a 8 ++ byt m.d.length 2
def plF (m : Fm) : List Int := hdF m ++ m.d
/-- where the numbers stand, and how many bytes each takes -/
def of16 : Nat → Nat
  | 0 => 0 | 1 => 2 | 2 => 3 | 3 => 4 | 4 => 5 | 5 => 13 | 6 => 21 | _ => 23
def sz16 : Nat → Nat
  | 0 => 2 | 4 => 8 | 5 => 8 | 6 => 2 | _ => 1
def num16 (l : List Int) (i : Nat) : Int := le ((l.drop (of16 i)).take (sz16 i))
def mk16 (l : List Int) : Fm := ⟨num16 l 2, num16 l 3, decide (num16 l 1 = 1), num16 l 4, num16 l 5, l.drop 23⟩
/-- are these bytes, without their sum, a frame's? -/
def isW (l : List Int) : Bool := decide (23 ≤ l.length) && ((decide (num16 l 0 = 21074) && (decide (num16 l 1 ≤ 1) && decide (num16 l 6 = l.length - 23))) && rgt (mk16 l))
instance (l : List Int) : Decidable (Sld l) := by unfold Sld; infer_instance
/-- are these bytes a frame's? -/
def isF (l : List Int) : Bool := decide (Sld l) && isW (l.take (l.length - 4))
def getF (l : List Int) : Fm := if isF l then mk16 (l.take (l.length - 4)) else z16
theorem rgt_parts {m : Fm} (h : rgt m = true) : (0 ≤ m.f ∧ m.f < 16) ∧ (0 ≤ m.t ∧ m.t < 16) ∧ m.d.length ≤ 4120 := by
  unfold rgt nok at h
  rw [Bool.and_eq_true] at h
  have h1 := of_decide_eq_true h.1
  have h2 : m.d.length ≤ 4120 := by
    have := h.2
    unfold bok at this
    cases hb : m.b <;> rw [hb] at this <;> simp only [if_true, Bool.false_eq_true, if_false, Bool.and_eq_true, decide_eq_true_eq] at this <;> omega
  omega
theorem byt2 (v : Int) : byt v 2 = [v % 256, v / 256 % 256] := rfl
theorem hdF_len (m : Fm) : (hdF m).length = 23 := by simp [hdF, byt_len]
theorem plF_len (m : Fm) : (plF m).length = 23 + m.d.length := by unfold plF; rw [List.length_append, hdF_len]
theorem hdF_Byt {m : Fm} (hr : rgt m = true) : Byt (hdF m) := by
  obtain ⟨hf, ht, hl⟩ := rgt_parts hr
  unfold hdF
  refine (((Byt.app ?_ (byt_Byt _ _)).app (byt_Byt _ _)).app (byt_Byt _ _))
  intro x hx
  have : 0 ≤ kb m.b ∧ kb m.b ≤ 1 := by unfold kb; split <;> omega
  simp at hx
  omega
theorem plF_Byt {m : Fm} (hr : rgt m = true) (hd : Byt m.d) : Byt (plF m) := (hdF_Byt hr).app hd
/-- twenty-three bytes and more, one by one -/
theorem head11 {l : List Int} (h : 11 ≤ l.length) : ∃ a0 a1 a2 a3 a4 a5 a6 a7 a8 a9 a10 r, l = a0 :: a1 :: a2 :: a3 :: a4 :: a5 :: a6 :: a7 :: a8 :: a9 :: a10 :: r := by
  match l, h with
  | a0 :: a1 :: a2 :: a3 :: a4 :: a5 :: a6 :: a7 :: a8 :: a9 :: a10 :: r, _ => exact ⟨_, _, _, _, _, _, _, _, _, _, _, _, rfl⟩
theorem head23 {l : List Int} (h : 23 ≤ l.length) : ∃ a0 a1 a2 a3 a4 a5 a6 a7 a8 a9 a10 a11 a12 a13 a14 a15 a16 a17 a18 a19 a20 a21 a22 r, l = a0 :: a1 :: a2 :: a3 :: a4 :: a5 :: a6 :: a7 :: a8 :: a9 :: a10 :: a11 :: a12 :: a13 :: a14 :: a15 :: a16 :: a17 :: a18 :: a19 :: a20 :: a21 :: a22 :: r := by
  obtain ⟨a0, a1, a2, a3, a4, a5, a6, a7, a8, a9, a10, r, rfl⟩ := head11 (l := l) (by omega)
  simp only [List.length_cons] at h
  obtain ⟨b0, b1, b2, b3, b4, b5, b6, b7, b8, b9, b10, r, rfl⟩ := head11 (l := r) (by omega)
  simp only [List.length_cons] at h
  obtain ⟨c, r, rfl⟩ : ∃ c q, r = c :: q := by
    match r, h with
    | c :: r, _ => exact ⟨_, _, rfl⟩
  exact ⟨_, _, _, _, _, _, _, _, _, _, _, _, _, _, _, _, _, _, _, _, _, _, _, _, rfl⟩
/-- the same by parts: five bytes, eight, eight, two, the rest -/
theorem cut23 {l : List Int} (h : 23 ≤ l.length) : ∃ a0 a1 a2 a3 a4 x y z r, l = [a0, a1, a2, a3, a4] ++ x ++ y ++ z ++ r ∧ x.length = 8 ∧ y.length = 8 ∧ z.length = 2 ∧ r = l.drop 23 := by
  obtain ⟨a0, a1, a2, a3, a4, a5, a6, a7, a8, a9, a10, a11, a12, a13, a14, a15, a16, a17, a18, a19, a20, a21, a22, r, rfl⟩ := head23 h
  exact ⟨a0, a1, a2, a3, a4, [a5, a6, a7, a8, a9, a10, a11, a12], [a13, a14, a15, a16, a17, a18, a19, a20], [a21, a22], r, rfl, rfl, rfl, rfl, rfl⟩
/-- the numbers of bytes that are cut so -/
theorem nums_cut (a0 a1 a2 a3 a4 : Int) (x y z r : List Int) (hx : x.length = 8) (hy : y.length = 8) (hz : z.length = 2) :
    let l := [a0, a1, a2, a3, a4] ++ x ++ y ++ z ++ r
    num16 l 0 = a0 + 256 * a1 ∧ num16 l 1 = a2 ∧ num16 l 2 = a3 ∧ num16 l 3 = a4 ∧ num16 l 4 = le x ∧ num16 l 5 = le y ∧ num16 l 6 = le z ∧ l.drop 23 = r := by
  match x, hx, y, hy, z, hz with
  | [x0, x1, x2, x3, x4, x5, x6, x7], _, [y0, y1, y2, y3, y4, y5, y6, y7], _, [z0, z1], _ =>
    refine ⟨?_, ?_, ?_, ?_, rfl, rfl, rfl, rfl⟩ <;> simp [num16, of16, sz16, le]
/-- what the document's Get asks -/
def isR (l : List Int) : Bool := decide (23 ≤ l.length) && (rgt (mkR l) && decide (plF (mkR l) = l))
where mkR (l : List Int) : Fm := ⟨l.getD 3 0, l.getD 4 0, decide (l.getD 2 0 = 1), le ((l.drop 5).take 8), le ((l.drop 13).take 8), l.drop 23⟩
theorem le_byt_back {x : List Int} {n : Nat} (h : Byt x) (hn : x.length = n) : byt (le x) n = x := by subst hn; exact byt_le x h
theorem mkR_eq {l : List Int} (h : 23 ≤ l.length) : isR.mkR l = mk16 l := by
  obtain ⟨a0, a1, a2, a3, a4, a5, a6, a7, a8, a9, a10, a11, a12, a13, a14, a15, a16, a17, a18, a19, a20, a21, a22, r, rfl⟩ := head23 h
  simp [isR.mkR, mk16, num16, of16, sz16, le]
theorem app_eq {a b c d : List Int} (h : a.length = c.length) : a ++ b = c ++ d ↔ a = c ∧ b = d := ⟨fun e => List.append_inj e h, fun ⟨e1, e2⟩ => by rw [e1, e2]⟩
theorem isR_eq {l : List Int} (hb : Byt l) : isR l = isW l := by
  by_cases h : 23 ≤ l.length
  · unfold isR isW
    rw [mkR_eq h, decide_eq_true h, Bool.true_and, Bool.true_and]
    cases hr : rgt (mk16 l)
    · rw [Bool.false_and, Bool.and_false]
    rw [Bool.true_and, Bool.and_true]
    have hln := plF_len (mk16 l)
    have hd23 : (mk16 l).d = l.drop 23 := rfl
    obtain ⟨a0, a1, a2, a3, a4, x, y, z, r, e, hx, hy, hz, hrr⟩ := cut23 h
    have hnc := nums_cut a0 a1 a2 a3 a4 x y z r hx hy hz
    dsimp only at hnc
    rw [← e] at hnc
    obtain ⟨n0, n1, n2, n3, n4, n5, n6, n7⟩ := hnc
    have hb2 := hb
    rw [e] at hb2
    have bx : Byt x := fun v hv => hb2 v (by simp [hv])
    have by_ : Byt y := fun v hv => hb2 v (by simp [hv])
    have bz : Byt z := fun v hv => hb2 v (by simp [hv])
    have q0 := hb2 a0 (by simp)
    have q1 := hb2 a1 (by simp)
    have q2 := hb2 a2 (by simp)
    have hm : mk16 l = ⟨a3, a4, decide (a2 = 1), le x, le y, r⟩ := by unfold mk16; rw [n1, n2, n3, n4, n5, n7]
    have hlr : l.length = 23 + r.length := by rw [e]; simp [hx, hy, hz]; omega
    have hp : plF (mk16 l) = l ↔ (a0 = 82 ∧ a1 = 82 ∧ kb (decide (a2 = 1)) = a2) ∧ byt (r.length : Nat) 2 = z := by
      rw [hm, e]
      unfold plF hdF
      dsimp only
      rw [le_byt_back bx hx, le_byt_back by_ hy]
      rw [app_eq (by simp [hx, hy, hz, byt_len]), app_eq (by simp [hx, hy, hz, byt_len]), app_eq (by simp [hx, hy, hz, byt_len]), app_eq (by simp [hx, hy, hz, byt_len])]
      simp
      intro _
      constructor
      · rintro ⟨h1, h2, h3⟩; exact ⟨h1.symm, h2.symm, h3⟩
      · rintro ⟨h1, h2, h3⟩; exact ⟨h1.symm, h2.symm, h3⟩
    have hq := (rgt_parts hr).2.2
    rw [hm] at hq
    dsimp only at hq
    have hzz : byt (r.length : Nat) 2 = z ↔ le z = r.length := by
      constructor
      · intro h1
        rw [← h1, le_byt]
        omega
      · intro h1
        rw [← h1, le_byt_back bz hz]
    have hkk : kb (decide (a2 = 1)) = a2 ↔ a2 ≤ 1 := by
      unfold kb
      by_cases h1 : a2 = 1
      · simp [h1]
      · simp [h1]; omega
    rw [n0, n1, n6]
    apply Bool.eq_iff_iff.2
    simp only [Bool.and_eq_true, decide_eq_true_eq]
    rw [hp, hzz, hkk, hlr]
    omega
  · unfold isW isR
    rw [decide_eq_false h]; rfl
theorem mk16_hd (m : Fm) (hm : FmT m) (hr : rgt m = true) : num16 (plF m) 0 = 21074 ∧ num16 (plF m) 1 = kb m.b ∧ num16 (plF m) 6 = m.d.length ∧ mk16 (plF m) = m := by
  have hnc := nums_cut 82 82 (kb m.b) m.f m.t (byt m.s 8) (byt m.a 8) (byt m.d.length 2) m.d (byt_len _ _) (byt_len _ _) (byt_len _ _)
  dsimp only at hnc
  obtain ⟨n0, n1, n2, n3, n4, n5, n6, n7⟩ := hnc
  have hs := hm.s
  have ha := hm.a
  have hl := (rgt_parts hr).2.2
  have e : plF m = [82, 82, kb m.b, m.f, m.t] ++ byt m.s 8 ++ byt m.a 8 ++ byt m.d.length 2 ++ m.d := rfl
  rw [← e] at n0 n1 n2 n3 n4 n5 n6 n7
  rw [le_byt] at n4 n5 n6
  refine ⟨n0, n1, by rw [n6]; omega, ?_⟩
  unfold mk16
  rw [n1, n2, n3, n4, n5, n7]
  obtain ⟨f, t, b, s, a, d⟩ := m
  dsimp only at hs ha ⊢
  congr
  · cases b <;> simp [kb]
  · omega
  · omega
/-- a right frame is read again -/
theorem put_get {m : Fm} (hm : FmT m) (hr : rgt m = true) : isW (plF m) = true := by
  obtain ⟨n0, n1, n6, e⟩ := mk16_hd m hm hr
  unfold isW
  rw [n0, n1, n6, e, hr, plF_len]
  have : kb m.b ≤ 1 := by unfold kb; split <;> omega
  simp [this]
  omega
theorem sealed_take (x : List Int) : (sealed x).take ((sealed x).length - 4) = x := by
  rw [seal_len, Nat.add_sub_cancel, seal_take]
theorem put_isF {m : Fm} (hm : FmT m) (hr : rgt m = true) : isF (sealed (plF m)) = true ∧ getF (sealed (plF m)) = m := by
  have h1 : isF (sealed (plF m)) = true := by
    unfold isF
    rw [sealed_take, put_get hm hr, decide_eq_true (seal_sld _)]; rfl
  refine ⟨h1, ?_⟩
  unfold getF
  rw [h1, if_pos rfl, sealed_take, (mk16_hd m hm hr).2.2.2]
/-- the numbers of bytes are those of their beginning -/
theorem num16_app {x : List Int} (y : List Int) (h : 23 ≤ x.length) (i : Nat) (hi : i < 7) : num16 (x ++ y) i = num16 x i := by
  have h1 : of16 i + sz16 i ≤ 23 := by
    match i, hi with
    | 0, _ | 1, _ | 2, _ | 3, _ | 4, _ | 5, _ | 6, _ => decide
  unfold num16
  rw [List.drop_append_of_le_length (by omega), List.take_append_of_le_length (by rw [List.length_drop]; omega)]
/-- bytes that begin as a frame's do, but are more or less, are none -/
theorem len_no {m : Fm} (hm : FmT m) (hr : rgt m = true) {l : List Int} (hh : ∀ i, i < 7 → 27 ≤ l.length → num16 (l.take (l.length - 4)) i = num16 (plF m) i) (hl : l.length ≠ 27 + m.d.length) : isF l = false := by
  unfold isF
  by_cases h27 : 27 ≤ l.length
  · unfold isW
    rw [hh 6 (by decide) h27, (mk16_hd m hm hr).2.2.1]
    have : ¬ ((m.d.length : Int) = ((l.take (l.length - 4)).length : Int) - 23) := by
      rw [List.length_take]; omega
    rw [decide_eq_false this]
    simp
  · unfold isW
    have : ¬ 23 ≤ (l.take (l.length - 4)).length := by rw [List.length_take]; omega
    rw [decide_eq_false this]
    simp
theorem num16_take {x : List Int} (k : Nat) (h : 23 ≤ k) (hk : k ≤ x.length) (i : Nat) (hi : i < 7) : num16 (x.take k) i = num16 x i := by
  have := num16_app (x := x.take k) (x.drop k) (by rw [List.length_take]; omega) i hi
  rw [List.take_append_drop] at this
  exact this.symm
/-- some are cut off -/
theorem cut_no {m : Fm} (hm : FmT m) (hr : rgt m = true) (n : Nat) (hn : n < (sealed (plF m)).length) : isF ((sealed (plF m)).take n) = false := by
  have hL : (sealed (plF m)).length = 27 + m.d.length := by rw [seal_len, plF_len]; omega
  refine len_no hm hr (fun i hi h27 => ?_) (by rw [List.length_take]; omega)
  rw [List.length_take] at h27
  have e : (sealed (plF m)).take n = (sealed (plF m)).take n := rfl
  rw [List.take_take, num16_take _ (by rw [List.length_take]; omega) (by rw [List.length_take]; omega) i hi]
  unfold sealed
  rw [num16_app _ (by rw [plF_len]; omega) i hi]
/-- more stand behind -/
theorem more_no {m : Fm} (hm : FmT m) (hr : rgt m = true) (y : List Int) (hy : 0 < y.length) : isF (sealed (plF m) ++ y) = false := by
  have hL : (sealed (plF m)).length = 27 + m.d.length := by rw [seal_len, plF_len]; omega
  refine len_no hm hr (fun i hi h27 => ?_) (by rw [List.length_append]; omega)
  rw [num16_take _ (by rw [List.length_append]; omega) (by omega) i hi]
  unfold sealed
  rw [List.append_assoc, num16_app _ (by rw [plF_len]; omega) i hi]
/-- a bit is turned -/
theorem turn_no {m : Fm} (hr : rgt m = true) (hd : Byt m.d) (q : Int) (hb : HasBit (sealed (plF m)) q) : isF (turn (sealed (plF m)) q) = false := by
  unfold isF
  rw [decide_eq_false (turn_sld q (plF_Byt hr hd) hb)]; rfl
theorem turn_same {m : Fm} (hm : FmT m) (hr : rgt m = true) (q : Int) (hb : ¬ HasBit (sealed (plF m)) q) : isF (turn (sealed (plF m)) q) = true := by
  unfold turn
  rw [if_neg hb]; exact (put_isF hm hr).1
theorem isF_parts {l : List Int} (h : isF l = true) : Sld l ∧ 27 ≤ l.length ∧ rgt (mk16 (l.take (l.length - 4))) = true := by
  unfold isF at h
  rw [Bool.and_eq_true] at h
  have h2 := h.2
  unfold isW at h2
  rw [Bool.and_eq_true, Bool.and_eq_true] at h2
  have h3 := of_decide_eq_true h2.1
  rw [List.length_take] at h3
  exact ⟨of_decide_eq_true h.1, by omega, h2.2.2⟩
def sameF (a b : Fm) : Bool := decide (a.f = b.f ∧ a.t = b.t ∧ a.b = b.b ∧ a.s = b.s ∧ a.a = b.a ∧ a.d = b.d)
theorem sameF_refl (a : Fm) : sameF a a = true := by simp [sameF]
end Go.Proofs.YtmdfopbigkfbnaaDoor
