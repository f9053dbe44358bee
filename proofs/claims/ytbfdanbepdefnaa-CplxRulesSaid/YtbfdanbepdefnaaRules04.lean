/-
  What holds of products, sums and words in any order: facts of numbers. Nothing of the program.
-/
import Derived.Test.YtbfdanbepdefnaaCplx
namespace Go.Proofs.Ytbfdanbepdefnaa
open Go.RowKit Ieee
set_option linter.unusedVariables false

theorem prod_comm (d d' : Datum) : d.product d' = d'.product d := by
  cases d with
  | nan s t => rw [mul_nan_r (d := d') rfl]; rfl
  | infinity s =>
    cases d' with
    | nan t u => rfl
    | number t n f => rfl
    | infinity t => show some (Datum.infinity (s ^^ t)) = some (Datum.infinity (t ^^ s)); rw [Bool.xor_comm]
  | number s m e =>
    cases d' with
    | nan t u => rfl
    | infinity t => rfl
    | number t n f => show some (Datum.number (s ^^ t) (m * n) (e + f)) = some (Datum.number (t ^^ s) (n * m) (f + e)); rw [Bool.xor_comm, Nat.mul_comm, Int.add_comm]
theorem prodD_comm (d d' : Datum) : prodD d d' = prodD d' d := by unfold prodD; rw [prod_comm, Bool.xor_comm]
/-- alike, or both no number -/
def Nq (d d' : Datum) : Prop := d = d' ∨ (d.isNaN = true ∧ d'.isNaN = true)
theorem Nq.refl (d : Datum) : Nq d d := .inl rfl
theorem prodD_nan_l {d d' : Datum} (h : d.isNaN = true) : (prodD d d').isNaN = true := by unfold prodD; rw [mul_nan_l h]; rfl
theorem prodD_nan_r {d d' : Datum} (h : d'.isNaN = true) : (prodD d d').isNaN = true := by unfold prodD; rw [mul_nan_r h]; rfl
theorem Nq.prod {d d' e e' : Datum} (h : Nq d d') (k : Nq e e') : Nq (prodD d e) (prodD d' e') := by
  rcases h with rfl | ⟨h1, h2⟩
  · rcases k with rfl | ⟨k1, k2⟩
    · exact .inl rfl
    · exact .inr ⟨prodD_nan_r k1, prodD_nan_r k2⟩
  · exact .inr ⟨prodD_nan_l h1, prodD_nan_l h2⟩
theorem op_nan {d : Datum} (h : d.isNaN = true) : d.opposite.isNaN = true := by obtain ⟨s, t, rfl⟩ := nan_cases h; rfl
theorem Nq.op {d d' : Datum} (h : Nq d d') : Nq d.opposite d'.opposite := by
  rcases h with rfl | ⟨h1, h2⟩
  · exact .inl rfl
  · exact .inr ⟨op_nan h1, op_nan h2⟩
theorem Nq.trans {a b c : Datum} (h : Nq a b) (k : Nq b c) : Nq a c := by
  rcases h with rfl | ⟨h1, h2⟩
  · exact k
  · rcases k with rfl | ⟨k1, k2⟩
    · exact .inr ⟨h1, h2⟩
    · exact .inr ⟨h1, k2⟩
theorem Nq.sum {d d' e e' : Datum} (h : Nq d d') (k : Nq e e') : d.sum e = d'.sum e' := by
  rcases h with rfl | ⟨h1, h2⟩
  · rcases k with rfl | ⟨k1, k2⟩
    · rfl
    · rw [sum_nan_r k1, sum_nan_r k2]
  · rw [sum_nan_l h1, sum_nan_l h2]
theorem prodD_op_r (d d' : Datum) : Nq (prodD d d'.opposite) (prodD d d').opposite := by
  cases d with
  | nan s t => exact .inr ⟨rfl, rfl⟩
  | infinity s =>
    cases d' with
    | nan t u => exact .inr ⟨rfl, rfl⟩
    | infinity t => left; cases s <;> cases t <;> rfl
    | number t n f =>
      by_cases h : n = 0
      · subst h; exact .inr ⟨rfl, rfl⟩
      · left
        unfold prodD
        rw [show (Datum.infinity s).product (Datum.number t n f).opposite = some (.infinity (s ^^ !t)) from if_neg h, show (Datum.infinity s).product (.number t n f) = some (.infinity (s ^^ t)) from if_neg h]
        cases s <;> cases t <;> rfl
  | number s m e =>
    cases d' with
    | nan t u => exact .inr ⟨rfl, rfl⟩
    | infinity t =>
      by_cases h : m = 0
      · subst h; exact .inr ⟨rfl, rfl⟩
      · left
        unfold prodD
        rw [show (Datum.number s m e).product (Datum.infinity t).opposite = some (.infinity (!t ^^ s)) from if_neg h, show (Datum.number s m e).product (.infinity t) = some (.infinity (t ^^ s)) from if_neg h]
        cases s <;> cases t <;> rfl
    | number t n f => left; cases s <;> cases t <;> rfl
theorem prodD_op_l (d d' : Datum) : Nq (prodD d.opposite d') (prodD d d').opposite := by
  rw [prodD_comm d.opposite, prodD_comm d]; exact prodD_op_r d' d
theorem op_op (d : Datum) : d.opposite.opposite = d := by cases d <;> simp [Datum.opposite]
theorem prodD_op_op (d d' : Datum) : Nq (prodD d.opposite d'.opposite) (prodD d d') := by
  have h1 := prodD_op_r d.opposite d'
  have h2 := (prodD_op_l d d').op
  rw [op_op] at h2
  exact h1.trans h2

theorem told_lt (o : Option Datum) : Go.Proofs.Ytbfdanbepdefnaa.told o < 4294967296 := by
  cases o with
  | none => show 2143289344 < 4294967296; decide
  | some z =>
    cases z with
    | number s m e => exact Ieee.Format.nearest_lt Ieee.single _ _ _
    | infinity s => cases s <;> decide
    | nan s t => show 2143289344 < 4294967296; decide
theorem pb_told (o : Option Datum) : pb (Go.Proofs.Ytbfdanbepdefnaa.told o) = Go.Proofs.Ytbfdanbepdefnaa.told o := by
  have hn : pb 2143289344 = 2143289344 := by decide +kernel
  cases o with
  | none => exact hn
  | some z =>
    cases z with
    | number s m e =>
      unfold pb
      have := write_num Ieee.single s (R53 (m * sh e)) (-2200) (by decide)
      rw [if_neg]
      show ¬ (Ieee.single.read (Ieee.single.write (.number s (R53 (m * sh e)) (-2200)))).isNaN = true
      rw [this]; decide
    | infinity s => cases s <;> decide +kernel
    | nan s t => exact hn
/-- a part with its sign turned -/
def nb (y : Nat) : Nat := bitsD (Ieee.single.read y).opposite
theorem nb_lt (y : Nat) : nb y < 4294967296 := bitsD_lt _
theorem read_pb (x : Nat) (h : x < 4294967296) : Nq (Ieee.single.read (pb x)) (Ieee.single.read x) := by
  unfold pb
  by_cases hn : (Ieee.single.read x).isNaN = true
  · rw [if_pos hn]; exact .inr ⟨by decide +kernel, hn⟩
  · rw [if_neg hn]; exact .inl rfl
theorem nb_eq (y : Nat) (h : y < 4294967296) : nb y = pb (y ^^^ 2147483648) := by
  unfold nb; rw [← read_neg y h, bitsD_read _ (neg_lt y h)]
theorem read_nb (y : Nat) (h : y < 4294967296) : Nq (Ieee.single.read (nb y)) (Ieee.single.read y).opposite := by
  rw [nb_eq y h, ← read_neg y h]; exact read_pb _ (neg_lt y h)
theorem nb_nb (y : Nat) (h : y < 4294967296) : nb (nb y) = pb y := by
  by_cases hn : (Ieee.single.read y).isNaN = true
  · have h1 : nb y = 2143289344 := by
      rw [nb_eq y h]; unfold pb; rw [read_neg y h, if_pos (op_nan hn)]
    rw [h1]
    unfold pb
    rw [if_pos hn]
    decide +kernel
  · have hn' : (Ieee.single.read y).isNaN = false := by simpa using hn
    have h1 : nb y = y ^^^ 2147483648 := by
      rw [nb_eq y h]; unfold pb; rw [read_neg y h, if_neg]
      cases hh : Ieee.single.read y with
      | nan s t => rw [hh] at hn'; cases hn'
      | _ => intro h; cases h
    rw [h1, nb_eq _ (neg_lt y h)]
    rw [Nat.xor_assoc, Nat.xor_self, Nat.xor_zero]
theorem near_word (s : Bool) (m : Nat) (e : Int) : ∃ r, r ≤ 2139095040 ∧ ∀ s, Ieee.single.nearest s m e = Ieee.single.word s r := by
  by_cases h : m = 0
  · subst h; exact ⟨0, by decide, fun s => nearest_zero _ _ _⟩
  · exact ⟨_, Nat.min_le_right _ _, fun s => near24 s e h⟩
theorem read_word_op (s : Bool) (r : Nat) (hr : r ≤ 2139095040) : (Ieee.single.read (Ieee.single.word s r)).opposite = Ieee.single.read (Ieee.single.word (!s) r) ∧ (Ieee.single.read (Ieee.single.word s r)).isNaN = false := by
  have h : r < Ieee.single.signWeight := by rw [show Ieee.single.signWeight = 2147483648 from by decide]; omega
  have hi : Ieee.single.infRung = 2139095040 := by decide
  rw [read_word _ _ _ h, read_word _ _ _ h]
  split
  · exact ⟨rfl, rfl⟩
  · split
    · exact ⟨rfl, rfl⟩
    · rw [if_pos (by omega), if_pos (by omega)]; exact ⟨rfl, rfl⟩
theorem nb_word (s : Bool) (r : Nat) (hr : r ≤ 2139095040) : nb (Ieee.single.word s r) = Ieee.single.word (!s) r := by
  unfold nb
  rw [(read_word_op s r hr).1, bitsD_read _ (by rw [word_single]; split <;> omega)]
  unfold pb
  rw [if_neg]
  rw [(read_word_op (!s) r hr).2]; decide
theorem nb_near (s : Bool) (m : Nat) (e : Int) : nb (Ieee.single.nearest s m e) = Ieee.single.nearest (!s) m e := by
  obtain ⟨r, hr, h⟩ := near_word s m e
  rw [h s, h (!s)]; exact nb_word s r hr
theorem sumV_op (s t : Bool) (V U : Nat) : sumV (!s) (!t) V U = sumV s t V U := by
  unfold sumV sg; cases s <;> cases t <;> simp <;> omega
theorem sumS_op (s t : Bool) (V U : Nat) (h : sumV s t V U ≠ 0) : sumS (!s) (!t) V U = !(sumS s t V U) := by
  unfold sumV sg at h
  unfold sumS sg
  cases s <;> cases t <;> simp at h ⊢ <;> (try rw [if_neg (by omega)]) <;> (try rw [if_neg (by omega)]) <;> (try simp) <;> (try rw [Bool.eq_iff_iff]) <;> (try simp) <;> omega
/-- of two numbers with their signs turned the sum is the sum with its sign turned, or nought -/
theorem told_op {p q : Datum} (hp : Mid p) (hq : Mid q) : Go.Proofs.Ytbfdanbepdefnaa.told (p.opposite.sum q.opposite) = nb (Go.Proofs.Ytbfdanbepdefnaa.told (p.sum q)) ∨ (Go.Proofs.Ytbfdanbepdefnaa.told (p.sum q) % 2147483648 = 0 ∧ Go.Proofs.Ytbfdanbepdefnaa.told (p.opposite.sum q.opposite) % 2147483648 = 0) := by
  have hn : nb 2143289344 = 2143289344 := by decide +kernel
  cases p with
  | nan s u => left; exact hn.symm
  | infinity s =>
    cases q with
    | nan t u => left; exact hn.symm
    | infinity t =>
      left
      cases s <;> cases t <;> decide +kernel
    | number t n f => left; exact (nb_word s 2139095040 (by decide)).symm
  | number s m e =>
    cases q with
    | nan t u => left; exact hn.symm
    | infinity t => left; exact (nb_word t 2139095040 (by decide)).symm
    | number t n f =>
      have h1 : Go.Proofs.Ytbfdanbepdefnaa.told ((Datum.number s m e).sum (.number t n f)) = _ := told_num s t hp.2.1 hq.2.1
      have h2 : Go.Proofs.Ytbfdanbepdefnaa.told ((Datum.number (!s) m e).sum (.number (!t) n f)) = _ := told_num (!s) (!t) hp.2.1 hq.2.1
      show Go.Proofs.Ytbfdanbepdefnaa.told ((Datum.number (!s) m e).sum (.number (!t) n f)) = _ ∨ _ ∧ Go.Proofs.Ytbfdanbepdefnaa.told ((Datum.number (!s) m e).sum (.number (!t) n f)) % 2147483648 = 0
      rw [h1, h2, sumV_op]
      by_cases h0 : sumV s t (m * sh e) (n * sh f) = 0
      · right
        rw [h0, R53_zero, nearest_zero, nearest_zero, word_single, word_single]
        constructor <;> split <;> rfl
      · left
        rw [sumS_op s t _ _ h0, nb_near]
/-- a word's conjugate -/
def cj (a : Nat) : Nat := cw (pb (a % 4294967296)) (nb (a / 4294967296))
theorem cj_lt (a : Nat) : cj a < 18446744073709551616 := by
  have h1 : pb (a % 4294967296) < 4294967296 := pb_lt (by omega)
  have h2 := nb_lt (a / 4294967296)
  unfold cj cw; omega
theorem lo_cw {x y : Nat} (hx : x < 4294967296) : lo (cw x y) = Ieee.single.read x := by unfold lo cw; congr 1; omega
theorem hi_cw {x y : Nat} (hx : x < 4294967296) : hi (cw x y) = Ieee.single.read y := by unfold hi cw; congr 1; omega
theorem lo_cj (a : Nat) : Nq (lo (cj a)) (lo a) := by
  unfold cj
  rw [lo_cw (pb_lt (by omega))]
  exact read_pb _ (by omega)
theorem hi_cj (a : Nat) (ha : a < 18446744073709551616) : Nq (hi (cj a)) (hi a).opposite := by
  unfold cj
  rw [hi_cw (pb_lt (by omega))]
  exact read_nb _ (by omega)
theorem cj_eq (a : Nat) : cw (bitsD (lo a)) (bitsD (hi a).opposite) = cj a := by
  unfold cj
  rw [show bitsD (lo a) = pb (a % 4294967296) from bitsD_read _ (by omega)]; rfl
theorem cj_cj (a : Nat) (ha : a < 18446744073709551616) : cj (cj a) = cw (bitsD (lo a)) (bitsD (hi a)) := by
  have h1 : pb (a % 4294967296) < 4294967296 := pb_lt (by omega)
  have e1 : cj a % 4294967296 = pb (a % 4294967296) := by unfold cj cw; omega
  have e2 : cj a / 4294967296 = nb (a / 4294967296) := by unfold cj cw; omega
  show cw (pb (cj a % 4294967296)) (nb (cj a / 4294967296)) = _
  rw [e1, e2, nb_nb _ (by omega), show bitsD (lo a) = pb (a % 4294967296) from bitsD_read _ (by omega), show bitsD (hi a) = pb (a / 4294967296) from bitsD_read _ (by omega)]
  congr 1
  by_cases hn : (Ieee.single.read (a % 4294967296)).isNaN = true
  · have : pb (a % 4294967296) = 2143289344 := by unfold pb; rw [if_pos hn]
    rw [this]; decide +kernel
  · have : pb (a % 4294967296) = a % 4294967296 := by unfold pb; rw [if_neg hn]
    rw [this, this]
/-- a product's two parts -/
def mre (a b : Nat) : Nat := Go.Proofs.Ytbfdanbepdefnaa.told ((prodD (lo a) (lo b)).sum (prodD (hi a) (hi b)).opposite)
def mim (a b : Nat) : Nat := Go.Proofs.Ytbfdanbepdefnaa.told ((prodD (lo a) (hi b)).sum (prodD (hi a) (lo b)))
theorem mre_comm (a b : Nat) : mre a b = mre b a := by unfold mre; rw [prodD_comm (lo a), prodD_comm (hi a)]
theorem mim_comm (a b : Nat) : mim a b = mim b a := by unfold mim; rw [sum_comm, prodD_comm (hi a), prodD_comm (lo a)]
theorem mre_cj (a b : Nat) (ha : a < 18446744073709551616) (hb : b < 18446744073709551616) : mre (cj a) (cj b) = mre a b := by
  unfold mre
  rw [Nq.sum ((lo_cj a).prod (lo_cj b)) (((hi_cj a ha).prod (hi_cj b hb)).trans (prodD_op_op _ _)).op]
theorem mim_cj (a b : Nat) (ha : a < 18446744073709551616) (hb : b < 18446744073709551616) : mim (cj a) (cj b) = nb (mim a b) ∨ (mim a b % 2147483648 = 0 ∧ mim (cj a) (cj b) % 2147483648 = 0) := by
  unfold mim
  rw [Nq.sum (((lo_cj a).prod (hi_cj b hb)).trans (prodD_op_r _ _)) (((hi_cj a ha).prod (lo_cj b)).trans (prodD_op_l _ _))]
  exact told_op (Mid.prod (lo_sh a) (hi_sh b) (lo_low a) (hi_low b)) (Mid.prod (hi_sh a) (lo_sh b) (hi_low a) (lo_low b))
/-- a norm's one part -/
def nrm (a : Nat) : Nat := Go.Proofs.Ytbfdanbepdefnaa.told ((prodD (lo a) (lo a)).sum (prodD (hi a) (hi a)))
theorem nrm_cj (a : Nat) (ha : a < 18446744073709551616) : nrm (cj a) = nrm a := by
  unfold nrm
  rw [Nq.sum ((lo_cj a).prod (lo_cj a)) (((hi_cj a ha).prod (hi_cj a ha)).trans (prodD_op_op _ _))]
theorem sq_sign {d : Datum} (h : Sh32 d) : (∃ s t, prodD d d = .nan s t) ∨ prodD d d = .infinity false ∨ ∃ m e, prodD d d = .number false m e := by
  rcases h with ⟨s, t, rfl⟩ | ⟨s, rfl⟩ | ⟨s, m, e, rfl, _⟩
  · exact .inl ⟨_, _, rfl⟩
  · exact .inr (.inl (by cases s <;> rfl))
  · exact .inr (.inr ⟨m * m, e + e, by cases s <;> rfl⟩)
theorem nrm_lt (a : Nat) : nrm a < 2147483648 := by
  have hw : ∀ r, r ≤ 2139095040 → Ieee.single.word false r < 2147483648 := fun r hr => by rw [word_single]; simp; omega
  have key : ∀ p q : Datum, (∃ s t, p = .nan s t) ∨ p = .infinity false ∨ (∃ m e, p = .number false m e) → (∃ s t, q = .nan s t) ∨ q = .infinity false ∨ (∃ m e, q = .number false m e) → Mid p → Mid q → Go.Proofs.Ytbfdanbepdefnaa.told (p.sum q) < 2147483648 := by
    intro p q hp hq mp mq
    rcases hp with ⟨s, t, rfl⟩ | rfl | ⟨m, e, rfl⟩
    · show 2143289344 < 2147483648; decide
    · rcases hq with ⟨s, t, rfl⟩ | rfl | ⟨n, f, rfl⟩
      · show 2143289344 < 2147483648; decide
      · exact hw _ (by decide)
      · exact hw _ (by decide)
    · rcases hq with ⟨s, t, rfl⟩ | rfl | ⟨n, f, rfl⟩
      · show 2143289344 < 2147483648; decide
      · exact hw _ (by decide)
      · rw [told_num false false mp.2.1 mq.2.1]
        have : sumS false false (m * sh e) (n * sh f) = false := by
          generalize m * sh e = V
          generalize n * sh f = U
          unfold sumS sg; simp; omega
        rw [this]
        obtain ⟨r, hr, h⟩ := near_word false (R53 (sumV false false (m * sh e) (n * sh f))) (-2200)
        rw [h]; exact hw r hr
  exact key _ _ (sq_sign (lo_sh a)) (sq_sign (hi_sh a)) (Mid.prod (lo_sh a) (lo_sh a) (lo_low a) (lo_low a)) (Mid.prod (hi_sh a) (hi_sh a) (hi_low a) (hi_low a))
end Go.Proofs.Ytbfdanbepdefnaa
