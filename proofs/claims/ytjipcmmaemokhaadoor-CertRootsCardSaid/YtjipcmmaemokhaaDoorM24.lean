/- plain, twin; div by a number of one word. -/
import Derived.Test.YtjipcmmaemokhaaDoorM23
import Derived.Laws.AppendOwnNone
import Derived.Laws.AppendOwn
import Derived.Deep.RegionLaw
import Derived.Deep.OwnRows
namespace Go.Proofs.YtjipcmmaemokhaaDoor
open Go.RowKit
set_option linter.unusedVariables false

theorem dig_one (n : Nat) (h0 : n ≠ 0) (h : n < 4294967296) : dig n = [n] := by
  have e : n / B32 = 0 := Nat.div_eq_of_lt h
  rw [dig_pos h0, e, dig_zero, Nat.mod_eq_of_lt (show n < B32 from h)]
theorem dig_two (n : Nat) (h0 : 4294967296 ≤ n) (h : n < 18446744073709551616) : dig n = [n % 4294967296, n / 4294967296] := by
  have e1 : n / B32 = n / 4294967296 := rfl
  have e2 : n % B32 = n % 4294967296 := rfl
  rw [dig_pos (by omega), e1, e2, dig_one (n / 4294967296) (by omega) (by omega)]
theorem bigv_nil (w : World) (n : Nat) (h : n = 0) : BigV w (.slice none 0 0) n := by subst h; exact ⟨none, 0, by rw [dig_zero]; rfl, .inl dig_zero⟩
theorem ordI_lt {a b : Nat} (h : a < b) : ordI a b < 0 := by unfold ordI; rw [if_pos h]; decide
theorem ordI_ge {a b : Nat} (h : b ≤ a) : ¬ ordI a b < 0 := by unfold ordI; rw [if_neg (by omega)]; split <;> omega
end Go.Proofs.YtjipcmmaemokhaaDoor
namespace Go.Proofs.YtjipcmmaemokhaaDoor
open Go.RowKit
set_option linter.unusedVariables false

end Go.Proofs.YtjipcmmaemokhaaDoor
namespace Go.Proofs.YtjipcmmaemokhaaDoor
open Go.RowKit
set_option linter.unusedVariables false

end Go.Proofs.YtjipcmmaemokhaaDoor
namespace Go.Proofs.YtjipcmmaemokhaaDoor
open Go.RowKit
set_option linter.unusedVariables false

theorem step_call3 {P : Program} {ops : Array Oper} {o : Oper} {a : Act} {w : World} {K : Act → World → Prop} {Q : Exit → Act → World → Prop} {E : Prop} (hgd : o.guard = none) (f : FuncId) (x0 x1 x2 : Operand) (ts : Array TypeId)
    (ho : o.op = .call { callee := .value (.func f), args := #[x0, x1, x2], argTypes := ts }) (v0 v1 v2 : Value) (hx0 : a.eval x0 = v0) (hx1 : a.eval x1 = v1) (hx2 : a.eval x2 = v2) (hf : ∀ args w, (callFunc f args).run P w = .ok (.enter f args) w)
    {S : Ending → World → Prop} (hc : Calls P f #[v0, v1, v2] w S) (hv : ∀ e w', S e w' → ∃ v, e = .returned v ∧ K (a.put o.dst v) w') :
    if Region.wanted o (yielded ops a.tmps) = true then Oper.wp P o a w K Q else E := by
  have hw : Region.wanted o (yielded ops a.tmps) = true := by simp [Region.wanted, hgd]
  rw [if_pos hw]
  obtain ⟨dst, op, ty, pos, after, guard⟩ := o
  cases ho
  have hrun : (execOp a.eval { dst, op := .call { callee := .value (.func f), args := #[x0, x1, x2], argTypes := ts }, type := ty, pos, after, guard }).run P w = .ok (.enter f #[v0, v1, v2]) w := by
    show (callFunc f (#[] ++ #[x0, x1, x2].map a.eval ++ #[])).run P w = _
    have e : (#[] ++ #[x0, x1, x2].map a.eval ++ #[]) = #[v0, v1, v2] := by simp [hx0, hx1, hx2]
    rw [e]; exact hf _ _
  unfold Oper.wp
  rw [hrun, Oper.upon_enter]
  refine hc.mono fun e w' hh => ?_
  obtain ⟨v, rfl, hk⟩ := hv e w' hh
  exact hk
theorem step_call4 {P : Program} {ops : Array Oper} {o : Oper} {a : Act} {w : World} {K : Act → World → Prop} {Q : Exit → Act → World → Prop} {E : Prop} (hgd : o.guard = none) (f : FuncId) (x0 x1 x2 x3 : Operand) (ts : Array TypeId)
    (ho : o.op = .call { callee := .value (.func f), args := #[x0, x1, x2, x3], argTypes := ts }) (v0 v1 v2 v3 : Value) (hx0 : a.eval x0 = v0) (hx1 : a.eval x1 = v1) (hx2 : a.eval x2 = v2) (hx3 : a.eval x3 = v3) (hf : ∀ args w, (callFunc f args).run P w = .ok (.enter f args) w)
    {S : Ending → World → Prop} (hc : Calls P f #[v0, v1, v2, v3] w S) (hv : ∀ e w', S e w' → ∃ v, e = .returned v ∧ K (a.put o.dst v) w') :
    if Region.wanted o (yielded ops a.tmps) = true then Oper.wp P o a w K Q else E := by
  have hw : Region.wanted o (yielded ops a.tmps) = true := by simp [Region.wanted, hgd]
  rw [if_pos hw]
  obtain ⟨dst, op, ty, pos, after, guard⟩ := o
  cases ho
  have hrun : (execOp a.eval { dst, op := .call { callee := .value (.func f), args := #[x0, x1, x2, x3], argTypes := ts }, type := ty, pos, after, guard }).run P w = .ok (.enter f #[v0, v1, v2, v3]) w := by
    show (callFunc f (#[] ++ #[x0, x1, x2, x3].map a.eval ++ #[])).run P w = _
    have e : (#[] ++ #[x0, x1, x2, x3].map a.eval ++ #[]) = #[v0, v1, v2, v3] := by simp [hx0, hx1, hx2, hx3]
    rw [e]; exact hf _ _
  unfold Oper.wp
  rw [hrun, Oper.upon_enter]
  refine hc.mono fun e w' hh => ?_
  obtain ⟨v, rfl, hk⟩ := hv e w' hh
  exact hk
end Go.Proofs.YtjipcmmaemokhaaDoor
