/- QuoRem, DivMod, Mod of the big numbers, by a number of three words or more. -/
import Derived.Test.YtjipcmmaemokhaaDoorM41
import Derived.Test.YtjipcmmaemokhaaDoorM24
namespace Go.Proofs.YtjipcmmaemokhaaDoor
open Go.RowKit
set_option linter.unusedVariables false
set_option linter.unusedSimpArgs false
set_option maxRecDepth 100000

end Go.Proofs.YtjipcmmaemokhaaDoor
namespace Go.Proofs.YtjipcmmaemokhaaDoor
open Go.RowKit
set_option linter.unusedVariables false
set_option linter.unusedSimpArgs false
set_option maxRecDepth 100000

theorem step_call2K {P : Program} {ops : Array Oper} {o : Oper} {a : Act} {w : World} {K : Act → World → Prop} {Q : Exit → Act → World → Prop} {E : Prop} (hgd : o.guard = none) (f : FuncId) (x0 x1 : Operand) (ts : Array TypeId)
    (ho : o.op = .call { callee := .value (.func f), args := #[x0, x1], argTypes := ts }) (v0 v1 : Value) (hx0 : a.eval x0 = v0) (hx1 : a.eval x1 = v1) (hf : ∀ args w, (callFunc f args).run P w = .ok (.enter f args) w)
    {S : Ending → World → Prop} (hc : Calls P f #[v0, v1] w S) (hv : ∀ e w', S e w' → ∃ v, e = .returned v ∧ K (a.put o.dst v) w') :
    if Region.wanted o (yielded ops a.tmps) = true then Oper.wp P o a w K Q else E := by
  have hw : Region.wanted o (yielded ops a.tmps) = true := by simp [Region.wanted, hgd]
  rw [if_pos hw]
  obtain ⟨dst, op, ty, pos, after, guard⟩ := o
  cases ho
  have hrun : (execOp a.eval { dst, op := .call { callee := .value (.func f), args := #[x0, x1], argTypes := ts }, type := ty, pos, after, guard }).run P w = .ok (.enter f #[v0, v1]) w := by
    show (callFunc f (#[] ++ #[x0, x1].map a.eval ++ #[])).run P w = _
    have e : (#[] ++ #[x0, x1].map a.eval ++ #[]) = #[v0, v1] := by simp [hx0, hx1]
    rw [e]; exact hf _ _
  unfold Oper.wp
  rw [hrun, Oper.upon_enter]
  refine hc.mono fun e w' hh => ?_
  obtain ⟨v, rfl, hk⟩ := hv e w' hh
  exact hk
end Go.Proofs.YtjipcmmaemokhaaDoor
