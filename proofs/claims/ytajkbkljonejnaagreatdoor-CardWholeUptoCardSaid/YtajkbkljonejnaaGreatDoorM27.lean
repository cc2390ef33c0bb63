/- The big numbers themselves: Add into one of its own; Bit, Int64. -/
import Derived.Test.YtajkbkljonejnaaGreatDoorM26
namespace Go.Proofs.YtajkbkljonejnaaGreatDoor
open Go.RowKit
set_option linter.unusedVariables false

theorem step_call3 {P : Program} {ops : Array Oper} {o : Oper} {a : Act} {w : World} {K : Act → World → Prop} {Q : Exit → Act → World → Prop} {E : Prop} (hgd : o.guard = none) (f : FuncId) (x0 x1 x2 : Operand) (ts : Array TypeId)
    (ho : o.op = .call { callee := .value (.func f), args := #[x0, x1, x2], argTypes := ts }) (v0 v1 v2 : Value) (hx0 : a.eval x0 = v0) (hx1 : a.eval x1 = v1) (hx2 : a.eval x2 = v2) (hf : ∀ args w, (callFunc f args).run P w = .ok (.enter f args) w)
    {S : Ending → World → Prop} (hc : Calls P f #[v0, v1, v2] w S) (hv : ∀ e w', S e w' → ∃ v, e = .returned v ∧ K (a.put o.dst v) w') :
    if Region.wanted o (yielded ops a.tmps) = true then Oper.wp P o a w K Q else E := by
  have hw : Region.wanted o (yielded ops a.tmps) = true := by simp [Region.wanted, hgd]
  rw [if_pos hw]
  obtain ⟨dst, op, ty, pos, after, guard⟩ := o
  cases ho
  have hrun : (execOp a.eval { dst, op := .call { callee := .value (.func f), args := #[x0, x1, x2], argTypes := ts }, type := ty, pos, after, guard }).run P w = .ok (.enter f #[v0, v1, v2]) w := by
    show (callFunc f (#[] ++ #[x0, x1, x2].map a.eval ++ #[])).run P w = _
    have e : (#[] ++ #[x0, x1, x2].map a.eval ++ #[]) = #[v0, v1, v2] := by simp [hx0, hx1, hx2]
    rw [e]; exact hf _ _
  unfold Oper.wp
  rw [hrun, Oper.upon_enter]
  refine hc.mono fun e w' hh => ?_
  obtain ⟨v, rfl, hk⟩ := hv e w' hh
  exact hk
theorem step_call4 {P : Program} {ops : Array Oper} {o : Oper} {a : Act} {w : World} {K : Act → World → Prop} {Q : Exit → Act → World → Prop} {E : Prop} (hgd : o.guard = none) (f : FuncId) (x0 x1 x2 x3 : Operand) (ts : Array TypeId)
    (ho : o.op = .call { callee := .value (.func f), args := #[x0, x1, x2, x3], argTypes := ts }) (v0 v1 v2 v3 : Value) (hx0 : a.eval x0 = v0) (hx1 : a.eval x1 = v1) (hx2 : a.eval x2 = v2) (hx3 : a.eval x3 = v3) (hf : ∀ args w, (callFunc f args).run P w = .ok (.enter f args) w)
    {S : Ending → World → Prop} (hc : Calls P f #[v0, v1, v2, v3] w S) (hv : ∀ e w', S e w' → ∃ v, e = .returned v ∧ K (a.put o.dst v) w') :
    if Region.wanted o (yielded ops a.tmps) = true then Oper.wp P o a w K Q else E := by
  have hw : Region.wanted o (yielded ops a.tmps) = true := by simp [Region.wanted, hgd]
  rw [if_pos hw]
  obtain ⟨dst, op, ty, pos, after, guard⟩ := o
  cases ho
  have hrun : (execOp a.eval { dst, op := .call { callee := .value (.func f), args := #[x0, x1, x2, x3], argTypes := ts }, type := ty, pos, after, guard }).run P w = .ok (.enter f #[v0, v1, v2, v3]) w := by
    show (callFunc f (#[] ++ #[x0, x1, x2, x3].map a.eval ++ #[])).run P w = _
    have e : (#[] ++ #[x0, x1, x2, x3].map a.eval ++ #[]) = #[v0, v1, v2, v3] := by simp [hx0, hx1, hx2, hx3]
    rw [e]; exact hf _ _
  unfold Oper.wp
  rw [hrun, Oper.upon_enter]
  refine hc.mono fun e w' hh => ?_
  obtain ⟨v, rfl, hk⟩ := hv e w' hh
  exact hk
theorem ent_sum (args : Array Value) (w : World) : (callFunc 103 args).run Tryz.prog w = .ok (.enter 103 args) w := by kernel_rfl
theorem ent_give (args : Array Value) (w : World) : (callFunc 99 args).run Tryz.prog w = .ok (.enter 99 args) w := by kernel_rfl
set_option maxHeartbeats 4000000 in
set_option maxRecDepth 100000 in
theorem addOwn_any (p py a b : Nat) (w : World) (hx : IntAt w p a) (hy : IntAt w py b) (hpy : py ≠ p) (hla : a < B32 ^ 10000) (hlb : b < B32 ^ 10000) :
    Calls Tryz.prog 63 #[.pointer (some ⟨p, 0, none⟩), .pointer (some ⟨p, 0, none⟩), .pointer (some ⟨py, 0, none⟩)] w fun e w' => e = .returned (.pointer (some ⟨p, 0, none⟩)) ∧ IntAt w' p (a + b) ∧ (∀ B, B ≤ p → Below B w w') ∧ (∀ k, k < w.heap.size → k ≠ p → w'.heap[k]? = w.heap[k]?) ∧ w.heap.size ≤ w'.heap.size := by
  obtain ⟨va, hbx, hva⟩ := hx
  obtain ⟨vb, hby, hvb⟩ := hy
  have hplt := heap_lt hbx.1
  have N1 := hide (fun w' (hb : Below w.heap.size w w') => sum_add a b va vb w' (hva.below hb) (hvb.below hb) hla hlb)
  have N2 := hide (fun w' (hb : Below w.heap.size w w') v (hv : BigV w' v (a + b)) => give_any p (a + b) false va v w' (hbx.below hb) hv)
  obtain ⟨c0, c1⟩ := hbx.cells
  obtain ⟨d0, d1⟩ := hby.cells
  obtain ⟨x1, x2, x3, hv1⟩ := slice_of hva
  obtain ⟨y1, y2, y3, hv2⟩ := slice_of hvb
  subst hv1 hv2
  clear hla hlb hva hvb hbx hby
  go_enter Tryz.func63, Tryz.ntmps63
  go_wp2_with fail
  go_region_law ((first
    | (have hq := k1; refine step_call3 (by rfl) 99 _ _ _ _ (by rfl) (.pointer (some ⟨p, 0, none⟩)) (.bool false) v1 (by rfl) (by rfl) (by rfl) ent_give (unhide N2 _ k0 _ h1) ?_; rintro ev z2 ⟨rfl, hint, hbel, ho, hsz⟩; refine ⟨_, rfl, ?_⟩)
    | (refine step_call4 (by rfl) 103 _ _ _ _ _ (by rfl) (.bool false) (.slice x1 x2 x3) (.bool false) (.slice y1 y2 y3) (by rfl) (by rfl) (by rfl) (by rfl) ent_sum (unhide N1 _ (Below.refl _ _).drew) ?_; rintro ev z1 ⟨⟨v1, rfl, h1⟩, k1⟩; refine ⟨_, rfl, ?_⟩; have k0 : Below w.heap.size w z1 := (Below.refl _ _).drew.trans k1)))
  all_goals
    have R2 : Hid (∀ B, B ≤ p → Below B w z2) := hide (fun B hB' => (k0.mono (by omega)).trans (hbel B hB'))
    have R3 : Hid (∀ k, k < w.heap.size → k ≠ p → z2.heap[k]? = w.heap[k]?) := hide (fun k hk1 hk2 => (ho k (by have := k0.size; omega) hk2).trans (k0.block k hk1))
    have R4 : Hid (w.heap.size ≤ z2.heap.size) := hide (by have := k0.size; omega)
    have R1 := hide hint
    clear hint hbel ho hsz k0 k1 h1
    go_wp2
    go_ret
    exact ⟨rfl, unhide R1, unhide R2, unhide R3, unhide R4⟩
end Go.Proofs.YtajkbkljonejnaaGreatDoor
