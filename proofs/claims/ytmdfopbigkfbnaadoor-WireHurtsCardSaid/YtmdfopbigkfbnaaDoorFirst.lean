/-
  In a region that draws its order a call that leaves the world as it found it may be taken first: no function of the program stands here.
-/
import Derived.Test.YtmdfopbigkfbnaaDoorMem
import Derived.Deep.RegionHeld
namespace Go.Proofs.YtmdfopbigkfbnaaDoor
open Go.RowKit
set_option linter.unusedVariables false
section
variable {P : Program} {ops : Array Oper} {Q : Exit → Act → World → Prop} {md : Region.Mode} {S : World → Prop}

/-- in this state, in every world that meets S, the operation enters a function that answers v and leaves that world -/
def Enters (P : Program) (ops : Array Oper) (S : World → Prop) (o : Oper) (v : Value) (a : Act) : Prop :=
  Region.wanted o (yielded ops a.tmps) = true ∧ ∀ w, S w → ∃ f args, (execOp a.eval o).run P w = .ok (.enter f args) w ∧ Calls P f args w (fun e w' => e = .returned v ∧ w = w')
theorem Enters.here {i : Nat} {o : Oper} {v : Value} {a : Act} (hi : ops[i]? = some o) (hy : Enters P ops S o v a) {K : Act → World → Prop} {w : World} (hS : S w) (h : K (a.put o.dst v) w) : wpOp P ops Q i K a w := by
  obtain ⟨hw, hr⟩ := hy
  obtain ⟨f, args, hr, hc⟩ := hr w hS
  have hu : o.wp P a w K Q := by
    unfold Oper.wp
    rw [hr, Oper.upon_enter]
    refine hc.mono ?_
    rintro e w' ⟨rfl, rfl⟩
    exact h
  unfold Go.wpOp
  simp only [hi, hw, if_true]
  exact .inl hu
theorem Enters.like {o : Oper} {v : Value} {a b : Act} (hy : Enters P ops S o v a) (he : execOp b.eval o = execOp a.eval o) (hw : Region.wanted o (yielded ops b.tmps) = Region.wanted o (yielded ops a.tmps)) : Enters P ops S o v b := by
  refine ⟨hw.trans hy.1, ?_⟩
  rw [he]; exact hy.2
/-- another operation, apart from it, before it -/
theorem Enters.later {j : Nat} {o x : Oper} {v : Value} (hj : ops[j]? = some x) (hap : o.apart ops x = true) (hso : ∀ cs b, o.op ≠ .select cs b) (hsx : ∀ cs b, x.op ≠ .select cs b)
    (hQ : ∀ c a w, Q (.panic c) (a.put o.dst v) w → Q (.panic c) a w) {K : Act → World → Prop} {a : Act} {w : World} (hy : Enters P ops S o v a) (h : wpOp P ops Q j K (a.put o.dst v) w) :
    wpOp P ops Q j (fun b w' => Enters P ops S o v b ∧ K (b.put o.dst v) w') a w := by
  obtain ⟨p1, p2, p3⟩ := Oper.apart_spec hap
  have st : ∀ b, Enters P ops S o v b → ∀ u, Enters P ops S o v (b.put x.dst u) := fun b hb u => hb.like (execOp_put o hso b x.dst u p3) (wanted_put o b x.dst u p3)
  have after : ∀ u w', K ((a.put o.dst v).put x.dst u) w' → Enters P ops S o v (a.put x.dst u) ∧ K ((a.put x.dst u).put o.dst v) w' := fun u w' hk => ⟨st a hy u, by rwa [Act.put_comm a v u p2] at hk⟩
  have hrun := execOp_put x hsx a o.dst v p1
  unfold wpOp at h ⊢
  simp only [hj] at h ⊢
  rw [wanted_put x a o.dst v p1] at h
  by_cases hw : Region.wanted x (yielded ops a.tmps) = true
  · simp only [hw, if_true] at h ⊢
    rcases h with h | ⟨ha, hl⟩
    · refine .inl ?_
      unfold Oper.wp at h ⊢
      rw [hrun] at h
      cases hr : (execOp a.eval x).run P w with
      | halt y w' => rw [hr] at h; cases y <;> simp only [Oper.upon] at h ⊢ <;> exact hQ _ _ _ h
      | ok n w' =>
        rw [hr] at h
        cases n with
        | value u => exact after u w' h
        | skip => exact after undef w' h
        | defer d =>
          simp only [Oper.upon] at h ⊢
          rw [Act.put_defers, Act.put_comm _ v undef p2] at h
          exact ⟨(show Enters P ops S o v ({ a with defers := d :: a.defers } : Act) from ⟨hy.1, hy.2⟩).like (execOp_put o hso _ x.dst undef p3) (wanted_put o _ x.dst undef p3), h⟩
        | enter f args =>
          rw [Oper.upon_enter] at h ⊢
          refine Calls.mono h fun e w'' he => ?_
          cases e with
          | returned u => exact after u w'' he
          | panicked c => exact hQ _ _ _ he
          | outgrown => exact he
        | row r args => exact Rows.mono (show Rows P r args w' fun u w'' => K ((a.put o.dst v).put x.dst u) w'' from h) fun u w'' he => after u w'' he
        | _ => exact absurd h (by simp [Oper.upon])
    · refine .inr ⟨?_, hl⟩
      unfold Oper.asks at ha ⊢
      rwa [hrun] at ha
  · simp only [hw] at h ⊢
    exact after undef w h
theorem enter_first {i : Nat} {o : Oper} {v : Value} (hi : ops[i]? = some o) (hsel : ∀ (j : Nat) (x : Oper) cs b, ops[j]? = some x → x.op ≠ .select cs b) (hQ : ∀ c a w, Q (.panic c) (a.put o.dst v) w → Q (.panic c) a w) :
    ∀ (fuel : Nat) (listed : Array Bool) (a : Act) (w : World),
      (∀ j x, ops[j]? = some x → j ≠ i → listed.getD j true = false → (∀ e ∈ x.after, Region.binds md e = true → e.on ≠ i) → o.apart ops x = true) →
      i ∈ Region.ready md ops listed → Enters P ops S o v a → S w → wpAnyH P md ops Q S fuel (listed.setIfInBounds i true) (a.put o.dst v) w → wpAnyH P md ops Q S (fuel + 1) listed a w
  | 0, listed, a, w, _, hr, hy, hS, H => by
    refine ⟨fun h => absurd (h ▸ hr) (by simp), fun j hj => ?_⟩
    rcases Decidable.em (j = i) with rfl | hne
    · exact hy.here hi hS ⟨hS, H⟩
    · exact absurd (H.1 ▸ ready_mono hj hne) (by simp)
  | fuel + 1, listed, a, w, hf, hr, hy, hS, H => by
    refine ⟨fun h => absurd (h ▸ hr) (by simp), fun j hj => ?_⟩
    rcases Decidable.em (j = i) with rfl | hne
    · exact hy.here hi hS ⟨hS, H⟩
    · obtain ⟨hun, x, hx, hall⟩ := mem_ready.1 hj
      have hi0 := (mem_ready.1 hr).1
      have hno : ∀ e ∈ x.after, Region.binds md e = true → e.on ≠ i := fun e he hb heq => by
        have h1 := hall e he hb
        rw [heq] at h1
        rcases Nat.lt_or_ge i listed.size with h' | h'
        · simp [h'] at hi0 h1; rw [hi0] at h1; cases h1
        · simp [Array.getElem?_eq_none h'] at h1
      have h2 := hy.later hx (hf j x hx hne hun hno) (fun cs b => hsel i o cs b hi) (fun cs b => hsel j x cs b hx) hQ (H.2 j (ready_mono hj hne))
      refine wpOp_mono (fun b w' h3 => ⟨h3.2.1, enter_first hi hsel hQ fuel (listed.setIfInBounds j true) b w' (fun k y hk hki hku hkn => hf k y hk hki ?_ hkn) (ready_mono hr (Ne.symm hne)) h3.1 h3.2.1 ?_⟩) h2
      · rcases Decidable.em (j = k) with rfl | hjk
        · exact hun
        · rwa [getD_set_ne true hjk] at hku
      · rw [Array.setIfInBounds_comm _ _ hne]
        exact h3.2.2
theorem wpAnyH_enter {i : Nat} {o : Oper} {v : Value} {fuel : Nat} {listed : Array Bool} {a : Act} {w : World} (hi : ops[i]? = some o) (hs : Region.noSelect ops = true) (hf : Region.free md ops listed i = true) (hr : (Region.ready md ops listed).contains i = true)
    (hQ : ∀ c a w, Q (.panic c) (a.put o.dst v) w → Q (.panic c) a w) (hy : Enters P ops S o v a) (hS : S w)
    (h : wpAnyH P md ops Q S fuel (listed.setIfInBounds i true) (a.put o.dst v) w) : wpAnyH P md ops Q S (fuel + 1) listed a w :=
  enter_first hi (Region.noSelect_spec hs) hQ fuel listed a w (Region.free_spec hi hf) (by simpa using hr) hy hS h
end
end Go.Proofs.YtmdfopbigkfbnaaDoor
