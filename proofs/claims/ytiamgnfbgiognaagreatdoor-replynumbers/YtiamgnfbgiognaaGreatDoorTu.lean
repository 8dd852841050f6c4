/-
  turned: the parts, one by one.
-/
import Derived.Test.YtiamgnfbgiognaaGreatDoorTr
import Derived.Deep.RegionLaw
namespace Go.Proofs.YtiamgnfbgiognaaGreatDoor
open Go.RowKit Go.PlainAid

theorem step_call {w : World} {ops : Array Oper} {o : Oper} {ac : Act} {K : Act → World → Prop} {Q : Exit → Act → World → Prop} {E : Prop} (hgd : o.guard = none) {f : Nat} (hf : ∀ args wx, (callFunc f args).run Tryz.prog wx = .ok (.enter f args) wx) (x : Operand) {t : TypeId} (ho : o.op = .call { callee := .value (.func f), args := #[x], argTypes := #[t] }) {v : Value} (hx : ac.eval x = v) {R : Ending → World → Prop} (hc : Calls Tryz.prog f #[v] w R)
    (h : ∀ e w', R e w' → ∃ v', e = .returned v' ∧ K (ac.put o.dst v') w') : if Region.wanted o (yielded ops ac.tmps) = true then Oper.wp Tryz.prog o ac w K Q else E := by
  have hw : Region.wanted o (yielded ops ac.tmps) = true := by simp [Region.wanted, hgd]
  have hv : ac.eval (.func f) = .func (.func f) #[] #[] := rfl
  rw [if_pos hw]
  unfold Oper.wp
  simp [execOp, ho, resolve, hx, hv, Deferred.ofValue, invoke, hf]
  rw [Oper.upon_enter]
  refine hc.mono ?_
  rintro e w' hR
  obtain ⟨v', rfl, hK⟩ := h e w' hR
  exact hK
end Go.Proofs.YtiamgnfbgiognaaGreatDoor
